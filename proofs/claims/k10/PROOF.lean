import PyProof.Rows.All
import Wide.All
import OpenK.AllK
import Wide.FinOn
import HandS.ForMost
import HandS.Wide
import HandS.Gcd
import HandS.IsInst
import KE.KExcIs
import HandS.ExcIs
import HandS.ExcInit
import HandS.ExcField
import HandS.ExcOwn
import HandS.WordsExc
import KE.GoesMore
import KE.GoesEnum
import HandS.Iter
import HandS.Text
import HandS.StrMore
import KE.IntTextLaws
import PyProof.Rows.RegStrFacts
import PyProof.StrLawsChain
import HandS.Dict
import HandS.More
import PyProof.StrOps2
import HandS.Exc
import HandS.List
import HandS.Style
import PyProof.AutoSeq1
import PyProof.ReprRoads
import PySem.Challenge.RW_compasswork_k10_formula_texts
set_option Elab.async false
set_option linter.all false
set_option maxRecDepth 100000
/-! what the proofs of all laws share: own rules, heaps, the state of draws, comprehensions, rows of ints -/
namespace KG
open PySem PySem.Spec PyProof.Rows L2
def co (p : List Int) (i : Nat) : Int := p.getD i 0
theorem co_ge {p : List Int} {i : Nat} (h : p.length ≤ i) : co p i = 0 := by
  simp [co, List.getD_eq_getElem?_getD, List.getElem?_eq_none h]
theorem co_mem {row : List Int} {i : Nat} (h : i < row.length) : co row i ∈ row := by simp [co, List.getD_eq_getElem?_getD, h]
/-- // by any divisor but 0 of less than 9000 bits -/
def CDivZ (_ j : Int) : Prop := j ≠ 0 ∧ j.natAbs.log2 < 9000
/-- a def that may be called -/
structure Cal (P : Program) (w : World) (K : PySem.W.Frag) (mg : Str → Option Value) (base : Heap) (k : Nat) (x : Str) (ps : List Str) (sp : Sp) where
  f : Addr
  fd : FuncData
  ok : FnOk P w K mg base CX0 k f fd ps sp
  b : Binds K fd ps []
  m : mg x = some (.ref f)
  kp : PySem.W.keepIn K (.ref f) = true
section
variable {X : Cx}
theorem op_fdivZ : OpR X (binaryOp .FloorDiv) (rI CDivZ fun i j => .int (i.fdiv j)) :=
  opI fun _ _ _ _ _ _ _ hc q => floordiv_int hc.1 q (.inl (PyProof.noPylong_of_log2 hc.2))
end
/-! ### heaps -/
theorem same_new {H : Hp} {p : Addr} (h : H p = none) (o : HO) : Same H (upd H p o) := fun b u q => by rw [upd_ne (ne_of_none q h)]; exact q
/-- all but what stands at p is as it was -/
def But (p : Addr) (H H' : Hp) : Prop := ∀ b o, b ≠ p → H b = some o → H' b = some o
theorem But.refl (p : Addr) (H : Hp) : But p H H := fun _ _ _ h => h
theorem But.trans {p : Addr} {H H1 H2 : Hp} (a : But p H H1) (b : But p H1 H2) : But p H H2 := fun c o n h => b c o n (a c o n h)
theorem But.of {p : Addr} {H H' : Hp} (s : Same H H') : But p H H' := fun b o _ h => s b o h
theorem But.put {p : Addr} (H : Hp) (o : HO) : But p H (upd H p o) := fun b u n h => by rw [upd_ne n]; exact h
theorem But.seq {K : PySem.W.Frag} {p : Addr} {H H' : Hp} {a : Addr} {xs : List V} (e : But p H H') (n : a ≠ p) (h : SqL K H a xs) : SqL K H' a xs := by
  rcases h with (h | ⟨o, h⟩) | h
  · exact .inl (.inl (e _ _ n h))
  · exact .inl (.inr ⟨o, e _ _ n h⟩)
  · exact .inr h
theorem But.seqT {K : PySem.W.Frag} {p : Addr} {H H' : Hp} {a : Addr} {xs : List V} (e : But p H H') (n : a ≠ p) (h : SqT K H a xs) : SqT K H' a xs := by
  rcases h with (h | ⟨o, h⟩) | h
  · exact .inl (.inl (e _ _ n h))
  · exact .inl (.inr ⟨o, e _ _ n h⟩)
  · exact .inr h
theorem Same.seqT {K : PySem.W.Frag} {H H' : Hp} {a : Addr} {xs : List V} (e : Same H H') (h : SqT K H a xs) : SqT K H' a xs := by
  rcases h with (h | ⟨o, h⟩) | h
  · exact .inl (.inl (e _ _ h))
  · exact .inl (.inr ⟨o, e _ _ h⟩)
  · exact .inr h
/-! ### the state that numbers are drawn from -/
def stL (a e : Addr) (r c m : Int) : List V := [.ref a, .int r, .int c, .int m, .ref e, .int 0, .int 0, .int 0]
def StOk (ns : List Int) (r c m : Int) : Prop := (m = 1 ∧ 0 < ns.length) ∨ (m = 0 ∧ 0 ≤ r ∧ 0 ≤ c)
theorem upd_self {H : Hp} {p : Addr} {o : HO} (h : H p = some o) : upd H p o = H := by
  funext b
  by_cases e : b = p
  · rw [e, upd_same, h]
  · rw [upd_ne e]
theorem same_upd {H H' : Hp} (s : Same H H') (p : Addr) (o : HO) : Same (upd H p o) (upd H' p o) := fun b u h => by
  by_cases e : b = p
  · rw [e, upd_same] at h ⊢; exact h
  · rw [upd_ne e] at h ⊢; exact s b u h
theorem but_upd {p : Addr} {H H' : Hp} (s : But p H H') (o : HO) : Same (upd H p o) (upd H' p o) := fun b u h => by
  by_cases e : b = p
  · rw [e, upd_same] at h ⊢; exact h
  · rw [upd_ne e] at h ⊢; exact s b u e h
/-- a list that is to be read whatever stands at p -/
def SqO (K : PySem.W.Frag) (H : Hp) (p a : Addr) (xs : List V) : Prop := ∀ o, SqL K (upd H p o) a xs
theorem SqO.new {K : PySem.W.Frag} {H : Hp} {p a : Addr} {xs : List V} (h : SqL K H a xs) (n : H p = none) : SqO K H p a xs := fun o => (same_new n o).seq h
theorem SqO.now {K : PySem.W.Frag} {H : Hp} {p a : Addr} {xs : List V} {o : HO} (h : SqO K H p a xs) (e : H p = some o) : SqL K H a xs := by
  have := h o
  rwa [upd_self e] at this
theorem SqO.but {K : PySem.W.Frag} {H H' : Hp} {p a : Addr} {xs : List V} (h : SqO K H p a xs) (s : But p H H') : SqO K H' p a xs := fun o => (but_upd s o).seq (h o)
def StX (H : Hp) (p a : Addr) (ns : List Int) : Prop := ∃ (e : Addr) (r c m : Int), H p = some (.lst (stL a e r c m)) ∧ StOk ns r c m
theorem StX.but {H H' : Hp} {p a : Addr} {ns : List Int} (h : StX H p a ns) (e : H' p = H p) : StX H' p a ns := by
  obtain ⟨x, r, c, m, h1, h2⟩ := h
  exact ⟨x, r, c, m, e ▸ h1, h2⟩
theorem StX.same {H H' : Hp} {p a : Addr} {ns : List Int} (h : StX H p a ns) (s : Same H H') : StX H' p a ns := by
  obtain ⟨x, r, c, m, h1, h2⟩ := h
  exact ⟨x, r, c, m, s _ _ h1, h2⟩
theorem at_n {ns : List Int} {i : Int} (h0 : 0 ≤ i) (h1 : i < ns.length) : ∃ v : Int, atI (ns.map V.int) i = some (.int v) := by
  obtain ⟨k, rfl⟩ := Int.eq_ofNat_of_zero_le h0
  have hk : k < ns.length := by omega
  exact ⟨ns[k], atI_nat (by rw [List.getElem?_map, List.getElem?_eq_getElem hk]; rfl)⟩
/-! ### comprehensions whose step leaves the objects as they are -/
section
variable {K : PySem.W.Frag} {a D : Addr} {xs : List V} {g : TG} {te : TE} {vs : List Nat} {σ : L2.St} {H1 : Hp} {Qd : Hp → Prop}
theorem grown {H : Hp} {D : Addr} {xs : List V} {G : V → V} {i : Nat} {x : V} (hx : xs[i]? = some x) (hl : xs.length ≤ 1000) : (((xs.take i).map G).length < sizeLine) ∧ ((xs.take i).map G ++ [G x] = (xs.take (i + 1)).map G) := by
  have hi : i < xs.length := (List.getElem?_eq_some_iff.mp hx).1
  refine ⟨small1000 (by rw [List.length_map, List.length_take]; omega), ?_⟩
  rw [List.take_add_one, hx, List.map_append]; rfl
theorem comp_list (G : V → V) (hx : SqL K H1 a xs) (hD : H1 D = none) (hl : xs.length ≤ 1000)
    (hs : ∀ (i : Nat) (x : V) (H : Hp) (Nx : V → Hp → Prop), xs[i]? = some x → Same H1 H → Nx (G x) H → g x (wipe σ vs) H fun σ2 H2 => wipe σ2 vs = wipe σ vs ∧ te σ2 H2 Nx)
    (hd : ∀ H, Same H1 H → H D = some (.lst (xs.map G)) → Qd H) :
    ∃ W : Nat → Nat → Hp → Prop, (∃ m, W 0 m (upd H1 D (.lst []))) ∧ ∀ i m H, W i m H →
      ((Itl K a).stop i H ∧ Qd H) ∨ ((Itl K a).go i H ∧ ∃ Nx : Hp → Prop, (∀ H', Nx H' → ∃ m', m' < m ∧ W (i + 1) m' H') ∧ ∀ x H', (Itl K a).yld i H x H' → g x (wipe σ vs) H' fun σ2 H2 => wipe σ2 vs = wipe σ vs ∧ tYes σ2 H2 fun b H3 =>
        if b = true then te σ2 H3 fun y H4 => ∃ acc, H4 D = some (.lst acc) ∧ acc.length < sizeLine ∧ Nx (upd H4 D (.lst (acc ++ [y]))) else Nx H3) := by
  refine lc_list (xs := xs) (fun i H => Same H1 H ∧ H D = some (.lst ((xs.take i).map G))) ⟨same_new hD _, upd_same⟩ (fun i H _ h => h.1.seq hx) (fun i x H hix h => ?_) (fun H h => hd H h.1 (by rw [h.2, List.take_length]))
  have hg := grown (H := H) (D := D) (G := G) hix hl
  have := hs i x H (fun y H4 => ∃ acc, H4 D = some (.lst acc) ∧ acc.length < sizeLine ∧ (Same H1 (upd H4 D (.lst (acc ++ [y]))) ∧ (upd H4 D (.lst (acc ++ [y]))) D = some (.lst ((xs.take (i + 1)).map G)))) hix h.1
    ⟨_, h.2, hg.1, fun b o e => by rw [upd_ne (ne_of_none e hD)]; exact h.1 b o e, by rw [upd_same, hg.2]⟩
  exact this
theorem comp_tup (G : V → V) (hx : SqT K H1 a xs) (hD : H1 D = none) (hl : xs.length ≤ 1000)
    (hs : ∀ (i : Nat) (x : V) (H : Hp) (Nx : V → Hp → Prop), xs[i]? = some x → Same H1 H → Nx (G x) H → g x (wipe σ vs) H fun σ2 H2 => wipe σ2 vs = wipe σ vs ∧ te σ2 H2 Nx)
    (hd : ∀ H, Same H1 H → H D = some (.lst (xs.map G)) → Qd H) :
    ∃ W : Nat → Nat → Hp → Prop, (∃ m, W 0 m (upd H1 D (.lst []))) ∧ ∀ i m H, W i m H →
      ((Itt K a).stop i H ∧ Qd H) ∨ ((Itt K a).go i H ∧ ∃ Nx : Hp → Prop, (∀ H', Nx H' → ∃ m', m' < m ∧ W (i + 1) m' H') ∧ ∀ x H', (Itt K a).yld i H x H' → g x (wipe σ vs) H' fun σ2 H2 => wipe σ2 vs = wipe σ vs ∧ tYes σ2 H2 fun b H3 =>
        if b = true then te σ2 H3 fun y H4 => ∃ acc, H4 D = some (.lst acc) ∧ acc.length < sizeLine ∧ Nx (upd H4 D (.lst (acc ++ [y]))) else Nx H3) := by
  refine lc_tup (xs := xs) (fun i H => Same H1 H ∧ H D = some (.lst ((xs.take i).map G))) ⟨same_new hD _, upd_same⟩ (fun i H _ h => Same.seqT h.1 hx) (fun i x H hix h => ?_) (fun H h => hd H h.1 (by rw [h.2, List.take_length]))
  have hg := grown (H := H) (D := D) (G := G) hix hl
  have := hs i x H (fun y H4 => ∃ acc, H4 D = some (.lst acc) ∧ acc.length < sizeLine ∧ (Same H1 (upd H4 D (.lst (acc ++ [y]))) ∧ (upd H4 D (.lst (acc ++ [y]))) D = some (.lst ((xs.take (i + 1)).map G)))) hix h.1
    ⟨_, h.2, hg.1, fun b o e => by rw [upd_ne (ne_of_none e hD)]; exact h.1 b o e, by rw [upd_same, hg.2]⟩
  exact this
end
/-- a list or a tuple -/
def Sq (K : PySem.W.Frag) (H : Hp) (a : Addr) (xs : List V) : Prop := SqL K H a xs ∨ SqT K H a xs
theorem Sq.same {K : PySem.W.Frag} {H H' : Hp} {a : Addr} {xs : List V} (h : Sq K H a xs) (s : Same H H') : Sq K H' a xs := h.elim (fun h => .inl (s.seq h)) fun h => .inr (Same.seqT s h)
theorem Sq.but {K : PySem.W.Frag} {p : Addr} {H H' : Hp} {a : Addr} {xs : List V} (h : Sq K H a xs) (n : a ≠ p) (s : But p H H') : Sq K H' a xs := h.elim (fun h => .inl (s.seq n h)) fun h => .inr (s.seqT n h)
/-! ### ints in lists -/
theorem map_at {row : List Int} {i : Nat} (h : i < row.length) : (row.map V.int)[i]? = some (.int (co row i)) := by
  rw [List.getElem?_map, List.getElem?_eq_getElem h]
  simp [co, List.getD_eq_getElem?_getD, h]
theorem map_atI {row : List Int} {i : Int} (h0 : 0 ≤ i) (h : i < row.length) : atI (row.map V.int) i = some (.int (co row i.toNat)) := by
  obtain ⟨k, rfl⟩ := Int.eq_ofNat_of_zero_le h0
  exact atI_nat (map_at (by omega))
theorem map_last {row : List Int} (h : row ≠ []) : atI (row.map V.int) (-1) = some (.int (co row (row.length - 1))) := by
  have hp := List.length_pos_iff.mpr h
  have e : ixN (row.map V.int).length (-1) = some (row.length - 1) := by
    unfold ixN
    rw [if_neg (by decide), if_pos (by rw [List.length_map]; omega), List.length_map]
    congr 1; omega
  unfold atI
  rw [e]
  exact map_at (by omega)
theorem map_mem {row : List Int} {i : Nat} {x : V} (h : (row.map V.int)[i]? = some x) : i < row.length ∧ x = .int (co row i) := by
  have hi : i < row.length := by
    have := (List.getElem?_eq_some_iff.mp h).1
    rwa [List.length_map] at this
  refine ⟨hi, ?_⟩
  rw [map_at hi] at h
  exact (Option.some.inj h).symm
theorem log_small {z : Int} {n m : Nat} (h : z.natAbs < 2 ^ n) (h0 : 0 < n) (hm : n ≤ m) : z.natAbs.log2 < m := Nat.lt_of_lt_of_le (PySem.Flt.log2_lt_of h0 h) hm
section
variable {D : Addr} {g : TG} {te : TE} {vs : List Nat} {σ : L2.St} {H1 : Hp} {Qd : Hp → Prop}
theorem comp_range (G : Nat → V) (n : Nat) (hD : H1 D = none) (hl : n ≤ 1000)
    (hs : ∀ (i : Nat) (H : Hp) (Nx : V → Hp → Prop), i < n → Same H1 H → Nx (G i) H → g (.int (0 + (i : Nat))) (wipe σ vs) H fun σ2 H2 => wipe σ2 vs = wipe σ vs ∧ te σ2 H2 Nx)
    (hd : ∀ H, Same H1 H → H D = some (.lst ((List.range n).map G)) → Qd H) :
    ∃ W : Nat → Nat → Hp → Prop, (∃ m, W 0 m (upd H1 D (.lst []))) ∧ ∀ i m H, W i m H →
      ((Itr 0 n).stop i H ∧ Qd H) ∨ ((Itr 0 n).go i H ∧ ∃ Nx : Hp → Prop, (∀ H', Nx H' → ∃ m', m' < m ∧ W (i + 1) m' H') ∧ ∀ x H', (Itr 0 n).yld i H x H' → g x (wipe σ vs) H' fun σ2 H2 => wipe σ2 vs = wipe σ vs ∧ tYes σ2 H2 fun b H3 =>
        if b = true then te σ2 H3 fun y H4 => ∃ acc, H4 D = some (.lst acc) ∧ acc.length < sizeLine ∧ Nx (upd H4 D (.lst (acc ++ [y]))) else Nx H3) := by
  refine lc_range (lo := 0) (n := n) (fun i H => Same H1 H ∧ H D = some (.lst ((List.range i).map G))) ⟨same_new hD _, upd_same⟩ (fun i H hi h => ?_) (fun H h => hd H h.1 h.2)
  have := hs i H (fun y H4 => ∃ acc, H4 D = some (.lst acc) ∧ acc.length < sizeLine ∧ (Same H1 (upd H4 D (.lst (acc ++ [y]))) ∧ (upd H4 D (.lst (acc ++ [y]))) D = some (.lst ((List.range (i + 1)).map G)))) hi h.1
    ⟨_, h.2, small1000 (by rw [List.length_map, List.length_range]; omega), fun b o e => by rw [upd_ne (ne_of_none e hD)]; exact h.1 b o e, by rw [upd_same, List.range_succ, List.map_append]; rfl⟩
  exact this
end
/-- an item of a list or a tuple of ints -/
theorem rix {K : PySem.W.Frag} {H : Hp} {a : Addr} {row : List Int} {i : Int} {Q : VK} (h : Sq K H a (row.map V.int)) (h0 : 0 ≤ i) (h1 : i < row.length) (q : Q (.int (co row i.toNat)) H) : rIx K (.ref a) (.int i) H Q :=
  h.elim (fun h => .inl ⟨a, _, _, _, rfl, rfl, h, map_atI h0 h1, q⟩) fun h => .inr (.inl ⟨a, _, _, _, rfl, rfl, h, map_atI h0 h1, q⟩)
theorem set_map {p : List Int} {k : Nat} {z : Int} : (p.map V.int).set k (.int z) = (p.set k z).map V.int := by rw [List.map_set]
theorem ixN_nat {n : Nat} {k : Int} (h0 : 0 ≤ k) (h : k < n) : ixN n k = some k.toNat := by
  unfold ixN; rw [if_pos h0, if_pos h]
theorem cut_to (xs : List V) (n : Nat) (h : n ≤ xs.length) : cutV xs none (some (n : Int)) = xs.take n := by
  unfold cutV
  rw [HT.sIx_none, HT.sIx_nat, Nat.min_eq_left h, List.drop_zero, Nat.sub_zero]
def rLen (K : PySem.W.Frag) : List V → Hp → VK → Prop := fun xs H Q => ∃ p ys, xs = [.ref p] ∧ (SqL K H p ys ∨ SqT K H p ys) ∧ Q (.int ys.length) H
/-! the rules that read the written part, said with it: for use within a comprehension -/
section
variable {X : Cx} {K : PySem.W.Frag}
theorem call_lenK (e : X.K = K) : CallR X (.builtin "len") (rLen K) := by subst e; exact call_len_seq
theorem ix_seqK (e : X.K = K) : IxR X (rIx K) := by subst e; exact ix_seq
theorem ix_listK (e : X.K = K) : IxR X (rIxL K) := by subst e; exact ix_list
theorem ix_tupK (e : X.K = K) : IxR X (rIxT K) := by subst e; exact ix_tup
end
theorem same_put {H H' : Hp} {D : Addr} {o : HO} (s : Same H H') (hD : H D = none) : Same H (upd H' D o) := fun b u h => by
  rw [upd_ne (ne_of_none h hD)]; exact s b u h
/-! rows of ints as data -/
theorem dp_all {K : PySem.W.Frag} {H : Hp} : ∀ r : List Int, DpAll K H (r.map V.int) (r.map PyData.int)
  | [] => .nil
  | x :: r => .cons (.int x) (dp_all r)
theorem lay_all : ∀ r : List Int, PyData.canLayAll0 (r.map PyData.int) = true
  | [] => by simp [PyData.canLayAll0]
  | x :: r => by simp [PyData.canLayAll0, PyData.canLay0, lay_all r]
theorem deep_all : ∀ r : List Int, PyData.depthAll (r.map PyData.int) = 0
  | [] => by simp [PyData.depthAll]
  | x :: r => by simp [PyData.depthAll, PyData.depth, deep_all r]
theorem shaped_l (r : List Int) : SeqAt.shaped (.list (r.map PyData.int)) = true := by
  simp [SeqAt.shaped, PyData.canLay0, lay_all, PyData.depth, deep_all]
theorem shaped_t (r : List Int) : SeqAt.shaped (.tuple (r.map PyData.int)) = true := by
  simp [SeqAt.shaped, PyData.canLay0, lay_all, PyData.depth, deep_all]
theorem eqv_all : ∀ r q : List Int, PyData.eqvAll (r.map PyData.int) (q.map PyData.int) = decide (r = q)
  | [], [] => by simp [PyData.eqvAll]
  | [], y :: q => by simp [PyData.eqvAll]
  | x :: r, [] => by simp [PyData.eqvAll]
  | x :: r, y :: q => by
    have ih := eqv_all r q
    show (PyData.eqv (.int x) (.int y) && PyData.eqvAll (r.map PyData.int) (q.map PyData.int)) = _
    rw [ih]
    have e : PyData.eqv (.int x) (.int y) = (x == y) := by simp [PyData.eqv]
    rw [e, Bool.eq_iff_iff]
    simp
theorem eqv_l (r q : List Int) : PyData.eqv (.list (r.map PyData.int)) (.list (q.map PyData.int)) = decide (r = q) := by
  rw [← eqv_all]; simp [PyData.eqv]
theorem eqv_t (r q : List Int) : PyData.eqv (.tuple (r.map PyData.int)) (.tuple (q.map PyData.int)) = decide (r = q) := by
  rw [← eqv_all]; simp [PyData.eqv]
/-- the reading of a comparison of two rows -/
theorem eq_lists {K : PySem.W.Frag} {H : Hp} {a b : Addr} {r q : List Int} {Q : VK} (h1 : SqL K H a (r.map V.int)) (h2 : SqL K H b (q.map V.int)) (k : Q (.bl (decide (r = q))) H) : rEqD K (.ref a) (.ref b) H Q :=
  ⟨_, _, .lst h1 (dp_all r), .lst h2 (dp_all q), shaped_l r, shaped_l q, by rw [eqv_l]; exact k⟩
theorem eq_tups {K : PySem.W.Frag} {H : Hp} {a b : Addr} {r q : List Int} {Q : VK} (h1 : SqT K H a (r.map V.int)) (h2 : SqT K H b (q.map V.int)) (k : Q (.bl (decide (r = q))) H) : rEqD K (.ref a) (.ref b) H Q :=
  ⟨_, _, .tup h1 (dp_all r), .tup h2 (dp_all q), shaped_t r, shaped_t q, by rw [eqv_t]; exact k⟩
theorem ne_tups {K : PySem.W.Frag} {H : Hp} {a b : Addr} {r q : List Int} {Q : VK} (h1 : SqT K H a (r.map V.int)) (h2 : SqT K H b (q.map V.int)) (k : Q (.bl (!decide (r = q))) H) : rNeD K (.ref a) (.ref b) H Q :=
  ⟨_, _, .tup h1 (dp_all r), .tup h2 (dp_all q), shaped_t r, shaped_t q, by rw [eqv_t]; exact k⟩
theorem call_isiK {X : Cx} {K : PySem.W.Frag} (e : X.K = K) : CallR X (.builtin "isinstance") (rIsi K) := by subst e; exact call_isi
/-- a comprehension over a list whose step may make new objects -/
theorem comp_listS {K : PySem.W.Frag} {a D : Addr} {xs : List V} {g : TG} {te : TE} {vs : List Nat} {σ : L2.St} {H1 : Hp} {Qd : Hp → Prop} (R : V → Prop) (hx : SqL K H1 a xs) (hD : H1 D = none) (hl : xs.length ≤ 1000)
    (hs : ∀ (i : Nat) (x : V) (H : Hp) (Nx : V → Hp → Prop), xs[i]? = some x → Same H1 H → (∀ y H', Same H H' → R y → Nx y H') → g x (wipe σ vs) H fun σ2 H2 => wipe σ2 vs = wipe σ vs ∧ te σ2 H2 Nx)
    (hd : ∀ H ys, Same H1 H → H D = some (.lst ys) → ys.length = xs.length → (∀ y ∈ ys, R y) → Qd H) :
    ∃ W : Nat → Nat → Hp → Prop, (∃ m, W 0 m (upd H1 D (.lst []))) ∧ ∀ i m H, W i m H →
      ((Itl K a).stop i H ∧ Qd H) ∨ ((Itl K a).go i H ∧ ∃ Nx : Hp → Prop, (∀ H', Nx H' → ∃ m', m' < m ∧ W (i + 1) m' H') ∧ ∀ x H', (Itl K a).yld i H x H' → g x (wipe σ vs) H' fun σ2 H2 => wipe σ2 vs = wipe σ vs ∧ tYes σ2 H2 fun b H3 =>
        if b = true then te σ2 H3 fun y H4 => ∃ acc, H4 D = some (.lst acc) ∧ acc.length < sizeLine ∧ Nx (upd H4 D (.lst (acc ++ [y]))) else Nx H3) := by
  refine lc_list (xs := xs) (fun i H => Same H1 H ∧ ∃ ys, H D = some (.lst ys) ∧ ys.length = i ∧ ∀ y ∈ ys, R y) ⟨same_new hD _, [], upd_same, rfl, fun y h => by cases h⟩ (fun i H _ h => h.1.seq hx) (fun i x H hix h => ?_) (fun H h => ?_)
  · obtain ⟨sm, ys, e, l, r⟩ := h
    have hi : i < xs.length := (List.getElem?_eq_some_iff.mp hix).1
    have := hs i x H (fun y H4 => ∃ acc, H4 D = some (.lst acc) ∧ acc.length < sizeLine ∧ (Same H1 (upd H4 D (.lst (acc ++ [y]))) ∧ ∃ ys, (upd H4 D (.lst (acc ++ [y]))) D = some (.lst ys) ∧ ys.length = i + 1 ∧ ∀ y ∈ ys, R y)) hix sm
      (fun y H' s2 hr => ⟨ys, s2 _ _ e, small1000 (by omega), same_put (sm.trans s2) hD, ys ++ [y], upd_same, by rw [List.length_append, l]; rfl, fun z hz => by
        rcases List.mem_append.mp hz with hz | hz
        · exact r z hz
        · rw [List.mem_singleton.mp hz]; exact hr⟩)
    exact this
  · obtain ⟨sm, ys, e, l, r⟩ := h
    exact hd H ys sm e l r
theorem bools : ∀ ys : List V, (∀ y ∈ ys, ∃ b, y = V.bl b) → ∃ bs : List Bool, ys = bs.map V.bl
  | [], _ => ⟨[], rfl⟩
  | y :: ys, h => by
    obtain ⟨b, rfl⟩ := h y List.mem_cons_self
    obtain ⟨bs, rfl⟩ := bools ys fun z hz => h z (List.mem_cons_of_mem _ hz)
    exact ⟨b :: bs, rfl⟩
theorem StX.ne {H : Hp} {p a c : Addr} {ns : List Int} (X : StX H p a ns) (n : H c = none) : c ≠ p := fun z => by
  obtain ⟨_, _, _, _, e, _⟩ := X
  rw [z, e] at n; cases n
end KG

/-! steps of drawings, as the laws make them -/
namespace KG
open PySem PySem.Spec PyProof.Rows L2
structure Stp where
  w : Str
  ns : List Int
def stV (s : Stp) : List V := .str s.w :: s.ns.map V.int
/-- the values are the steps, each a tuple that stands -/
inductive SAt (H : Hp) : List V → List Stp → Prop
  | nil : SAt H [] []
  | cons {t : Addr} {s : Stp} {vs : List V} {ss : List Stp} : H t = some (.tup (stV s)) → SAt H vs ss → SAt H (.ref t :: vs) (s :: ss)
section
variable {H H' : Hp} {vs us : List V} {ss rs : List Stp}
theorem SAt.len (h : SAt H vs ss) : vs.length = ss.length := by
  induction h with
  | nil => rfl
  | cons _ _ ih => rw [List.length_cons, List.length_cons, ih]
theorem SAt.mono (h : SAt H vs ss) (k : ∀ t xs, H t = some (.tup xs) → H' t = some (.tup xs)) : SAt H' vs ss := by
  induction h with
  | nil => exact .nil
  | cons e _ ih => exact .cons (k _ _ e) ih
theorem SAt.same (h : SAt H vs ss) (s : Same H H') : SAt H' vs ss := h.mono fun t xs e => s t _ e
theorem SAt.put {r : Addr} {xs ys : List V} (h : SAt H vs ss) (e : H r = some (.lst xs)) : SAt (upd H r (.lst ys)) vs ss := h.mono fun t zs e2 => by
  rw [upd_ne (ne_of e2 e (by intro z; cases z))]; exact e2
theorem SAt.but {p a : Addr} {ns : List Int} (h : SAt H vs ss) (X : StX H p a ns) (b : But p H H') : SAt H' vs ss := h.mono fun t xs e => b _ _ (fun z => by
  obtain ⟨_, _, _, _, e2, _⟩ := X
  rw [z, e2] at e; cases e) e
theorem SAt.get : ∀ {vs : List V} {ss : List Stp} {i : Nat} {s : Stp}, SAt H vs ss → ss[i]? = some s → ∃ t, vs[i]? = some (.ref t) ∧ H t = some (.tup (stV s))
  | _, _, i, s, .nil, h => by simp at h
  | _, _, 0, s, .cons e _, h => by simp at h; subst h; exact ⟨_, rfl, e⟩
  | _, _, i + 1, s, .cons _ r, h => by
    obtain ⟨t, h1, h2⟩ := SAt.get (i := i) (s := s) r (by simpa using h)
    exact ⟨t, by simpa using h1, h2⟩
theorem SAt.append (h : SAt H vs ss) (k : SAt H us rs) : SAt H (vs ++ us) (ss ++ rs) := by
  induction h with
  | nil => exact k
  | cons e _ ih => exact .cons e ih
theorem SAt.take : ∀ {vs : List V} {ss : List Stp} (n : Nat), SAt H vs ss → SAt H (vs.take n) (ss.take n)
  | _, _, 0, _ => .nil
  | _, _, n + 1, .nil => .nil
  | _, _, n + 1, .cons e r => .cons e (SAt.take n r)
theorem SAt.drop : ∀ {vs : List V} {ss : List Stp} (n : Nat), SAt H vs ss → SAt H (vs.drop n) (ss.drop n)
  | _, _, 0, h => h
  | _, _, n + 1, .nil => .nil
  | _, _, n + 1, .cons _ r => SAt.drop n r
theorem SAt.rep {t : Addr} {s : Stp} (e : H t = some (.tup (stV s))) : ∀ n, SAt H (List.replicate n (.ref t)) (List.replicate n s)
  | 0 => .nil
  | n + 1 => .cons e (SAt.rep e n)
end
/-- whether a step of this word gives a point -/
def isPt (w : Str) : Bool := inV (.str w) [.str "point", .str "meet"]
/-- the forms of steps -/
def SForm (s : Stp) : Prop := (s.w = "point" ∧ s.ns.length = 2) ∨ (s.w = "line" ∧ s.ns.length = 2) ∨ (s.w = "circle" ∧ s.ns.length = 3) ∨ (s.w = "meet" ∧ s.ns.length = 3)
/-- i is the place of a step that gives a point (b), or a figure (not b) -/
def Nm1 (ss : List Stp) (b : Bool) (i : Int) : Prop := 0 ≤ i ∧ ∃ s, ss[i.toNat]? = some s ∧ isPt s.w = b
/-- a step that is drawn by the rules behind ss, its integers within m -/
def SNew (ss : List Stp) (m : Int) (s : Stp) : Prop :=
  (∃ x y, s = ⟨"point", [x, y]⟩ ∧ -m ≤ x ∧ x ≤ m ∧ -m ≤ y ∧ y ≤ m) ∨ (∃ i j, s = ⟨"line", [i, j]⟩ ∧ Nm1 ss true i ∧ Nm1 ss true j) ∨
  (∃ i j k, s = ⟨"circle", [i, j, k]⟩ ∧ Nm1 ss true i ∧ Nm1 ss true j ∧ Nm1 ss true k) ∨ (∃ i j w, s = ⟨"meet", [i, j, w]⟩ ∧ Nm1 ss false i ∧ Nm1 ss false j ∧ 0 ≤ w ∧ w ≤ 1)
theorem SNew.form {ss : List Stp} {m : Int} {s : Stp} (h : SNew ss m s) : SForm s := by
  rcases h with ⟨x, y, rfl, _⟩ | ⟨i, j, rfl, _⟩ | ⟨i, j, k, rfl, _⟩ | ⟨i, j, w, rfl, _⟩
  · exact .inl ⟨rfl, rfl⟩
  · exact .inr (.inl ⟨rfl, rfl⟩)
  · exact .inr (.inr (.inl ⟨rfl, rfl⟩))
  · exact .inr (.inr (.inr ⟨rfl, rfl⟩))
end KG

namespace KG
open PySem PySem.Spec PyProof.Rows L2
theorem cut_from (xs : List V) (n : Nat) (h : n ≤ xs.length) : cutV xs (some (n : Int)) none = xs.drop n := by
  unfold cutV
  rw [HT.sIx_none, HT.sIx_nat, Nat.min_eq_left h]
  exact List.take_of_length_le (by rw [List.length_drop]; omega)
theorem not_whole {n : Nat} {i : Nat} {hi : Option Int} (h : 0 < i) (k : 0 < n) : ¬ (HT.sIx n 0 (some (i : Int)) = 0 ∧ HT.sIx n n hi = n) := fun z => by
  have e : HT.sIx n 0 (some (i : Int)) = min i n := HT.sIx_nat n 0 i
  rw [e] at z
  have := z.1
  omega
end KG

/-! own errors whose __init__ stores one field -/
namespace KG
open PySem PySem.Spec PyProof.Rows L2
/-- isinstance(e, c), e the exception that the suite holds, with fields of its own -/
def rIsED (K : PySem.W.Frag) (D a : Addr) (cls : Value) (d : Option Addr) : List V → Hp → VK → Prop := fun xs H Q => cls = .ref D ∧ ∃ (dd : Addr) (fs : List (Str × V)) (c : V) (cv : Value) (b : Bool), d = some dd ∧ H dd = some (.xd fs) ∧ xs = [.ref a, c] ∧ (∀ u, RelV c u → u = cv) ∧ PySem.W.kitOne K (.ref D) cv = some b ∧ Q (.bl b) H
theorem call_isED {X : Cx} {a D : Addr} {oe : Obj} {cls : Value} {d : Option Addr} {pn : List (Addr × Obj)} (C : ExcC X.K D) (hcl : (PySem.W.clsIn X.K D).isSome = true) (hz : Zc cls d oe) (hf : ∃ vs, oe.data = .fields vs) : CallR (X.suite a ((a, oe) :: pn)) (.builtin "isinstance") (rIsED X.K D a cls d) := by
  intro pins s σ H xs us Q I r h
  obtain ⟨rfl, dd, fs, c, cv, b, rfl, ed, rfl, hcv, e, q⟩ := h
  obtain ⟨u1, u2, rfl, r1, r2⟩ := vals2 r
  cases (show u1 = Value.ref a from r1)
  have ec := hcv _ r2
  subst ec
  obtain ⟨hget, _⟩ := I.pin (a, oe) (List.mem_append.mpr (.inl List.mem_cons_self))
  obtain ⟨vs, hv⟩ := hf
  have hx : ObjOk X.prog X.w H s.heap dd (.xd fs) := I.hok dd _ ed
  obtain ⟨mA, hns, _⟩ := hx
  obtain ⟨od, ho, _⟩ := lookIn_ns hns
  have J : PySem.W.InstAt s.heap a oe D (some od) := ⟨hget, hz.1, by unfold PySem.W.notCls; rw [hv] <;> rfl, by rw [hz.2]; exact ho⟩
  exact PySem.W.kia_one (PySem.W.kitx_exc hcl C.hg C.hk C.hs C.ha C.hn C.ht C.hm) I.kIn J e (fun z => nomatch z) fun tk => ⟨.bl b, H, I.kept (t' := tk) fun _ _ z => z, rfl, q⟩
/-- what the written part says of an own error of the name x with the field f, below the error at W, below ValueError -/
structure OwnE (K : PySem.W.Frag) (mg : Str → Option Value) (x f : Str) (C fI W : Addr) : Prop where
  gC : mg x = some (.ref C)
  oex : OexC K C
  xf : XfC K C
  is : ExcC K C
  cl : (PySem.W.clsIn K C).isSome = true
  noF : PySem.W.findIn K (.ref C) f = some none
  iC : PySem.W.findIn K (.ref C) "__init__" = some (some (.ref fI))
  tI : PySem.W.typeIn K (.ref fI) = some (.type "function")
  exm : PySem.W.exmOne K (.ref C) (.ref C) = some true
  kW : PySem.W.kitOne K (.ref C) (.ref W) = some true
  kV : PySem.W.kitOne K (.ref C) (.type "ValueError") = some true
theorem kit_ref {K : PySem.W.Frag} {t : Value} {W : Addr} (h1 : PySem.W.isClsIn K W = true) (h2 : PySem.W.typeIn K (.ref W) = some (.type "type")) (h3 : PySem.W.subIn K t (.ref W) = some true) : PySem.W.kitOne K t (.ref W) = some true := by
  have h1' : (PySem.W.clsIn K W).isSome = true := h1
  unfold PySem.W.kitOne
  by_cases z : (t == .ref W) = true
  · rw [if_pos z]
  · rw [if_neg z]
    show (if ((PySem.W.clsIn K W).isSome && PySem.W.typeIn K (.ref W) == some (.type "type")) = true then PySem.W.subIn K t (.ref W) else none) = some true
    rw [if_pos (by rw [h1', h2] <;> rfl), h3]
theorem kit_val {K : PySem.W.Frag} {C : Addr} (h3 : PySem.W.subIn K (.ref C) (.type "ValueError") = some true) : PySem.W.kitOne K (.ref C) (.type "ValueError") = some true := by
  unfold PySem.W.kitOne
  rw [if_neg (show ¬ (Value.ref C == Value.type "ValueError") = true from fun z => nomatch (beq_iff_eq.mp z))]
  show (if PySem.W.kitMeta "ValueError" = true then PySem.W.subIn K (.ref C) (.type "ValueError") else none) = some true
  rw [if_pos (by decide +kernel), h3]
theorem own_mk {K : PySem.W.Frag} {h : Heap} {mg : Str → Option Value} {x f : Str} {C fI W : Addr} (X : K.In h) (G : h.Ns mainGlobals mg) {nm q : Str} {N : Addr} {bs : List Value} {sn : List Str} {sub : List Value} {ab : Bool} {col : Option Bool} {dd : Option Addr} {m0 m1 m2 m3 m5 : Option Value}
    (eC : PySem.W.nsIn K mainGlobals x = some (some (.ref C)))
    (eX : K.lookup C = some (excClassObj nm q C N bs [.ref W, .type "ValueError", .type "Exception", .type "BaseException", .type "object"] true sn sub ab col dd m0 m1 m2 m3 m5 "ValueError.__new__"))
    (e1 : PySem.W.findIn K (.ref C) "__setattr__" = some (some (.builtin "object.__setattr__"))) (e2 : PySem.W.findIn K (.ref C) "__getattribute__" = some (some (.builtin "BaseException.__getattribute__"))) (e3 : PySem.W.findIn K (.ref C) "__getattr__" = some none) (e4 : PySem.W.findIn K (.ref C) f = some none)
    (e5 : PySem.W.findIn K (.ref C) "__init__" = some (some (.ref fI))) (e6 : PySem.W.typeIn K (.ref fI) = some (.type "function")) (e7 : PySem.W.keepIn K (.ref C) = true) (e8 : PySem.W.subIn K (.ref C) (.type "BaseException") = some true) (e9 : PySem.W.typeIn K (.ref C) = some (.type "type")) (e10 : PySem.W.hasDictIn K C = true)
    (e11 : PySem.W.isClsIn K C = true) (e12 : PySem.W.subIn K (.ref C) (.ref C) = some true) (e13 : PySem.W.subIn K (.ref C) (.ref W) = some true) (e14 : PySem.W.typeIn K (.ref W) = some (.type "type")) (e15 : PySem.W.isClsIn K W = true) (e16 : PySem.W.subIn K (.ref C) (.type "ValueError") = some true)
    (e17 : PySem.W.findIn K (.ref C) "__class__" = some (some (.builtin "object.__class__"))) (e18 : PySem.W.specialIn K (.builtin "object.__class__") "__get__" = some (some (.builtin "getset_descriptor.__get__"))) (e19 : PySem.W.takesIn K (.builtin "object.__class__") = some true) (e20 : PySem.W.mroIn K C (.type "object") = some true) : OwnE K mg x f C fI W :=
  { gC := PySem.W.mg_of X G eC, oex := ⟨⟨nm, q, N, bs, _, sn, sub, ab, col, dd, m0, m1, m2, m3, m5, eX, rfl⟩, e1, e8, e9, e7⟩, xf := ⟨e2, e3, e8, e10⟩, is := ⟨e2, e3, e8, e10, e17, e18, e19, e20⟩, cl := e11, noF := e4, iC := e5, tI := e6, exm := PySem.W.exm_ref e8 e10 e9 e12, kW := kit_ref e15 e14 e13, kV := kit_val e16 }
/-- self.f = v, at an exception that is being made -/
def spInit (K : PySem.W.Frag) (f : Str) (C : Addr) : Sp := fun vs H Q _ => ∃ (a : Addr) (v : V), vs = [.ref a, v] ∧ OexC K C ∧ PySem.W.findIn K (.ref C) f = some none ∧ H a = some (exo a C none) ∧
  ∀ dx, H dx = none → dx ≠ a → Q .non (upd (upd H dx (exd dx [(f, v)])) a (exo a C (some dx)))
/-- the i-th statement of a class's body -/
def inCls : Stmt → Nat → Stmt
  | .ClassDef _ _ _ body _ _ _ _ _ _ _, i => body.getD i (.Pass ⟨0, 0, 0, 0⟩)
  | _, _ => .Pass ⟨0, 0, 0, 0⟩
end KG

/-! enumerate of a tuple -/
namespace KG
open PySem PySem.Spec PyProof.Rows L2
set_option maxHeartbeats 1000000 in
theorem enum_new1 {v : Value} {o : Obj} {Hq : Heap → Prop} (B : Begins v o Hq) : Meets (Builtin.«enumerate.__new__» ⟨[.type "enumerate", v], []⟩) (fun _ R s => Hq s.heap ∧ R (.ok (.ret (.ref (s.heap.push o).objs.size))) { s with heap := (s.heap.push o).push { cls := .type "enumerate", data := .fields #[.none, .bool false, .ref s.heap.objs.size, rawInt 0, .none, .none] } }) :=
  .of_wp fun prog w A R s h => by
    obtain ⟨hp, g, d, tk, os⟩ := s
    obtain ⟨h1, h⟩ := h
    have isub := sub_enumerate
    have q1 : ∀ {A' : Around} {E : Value → Shared → Prop} {Q : Value → Shared → Prop}, Q (.ref hp.objs.size) ⟨hp.push o, g, d, tk, os⟩ → wpAny (model prog w) A' (pyIter v) Q E ⟨hp, g, d, tk, os⟩ := fun q => B.iter prog w _ _ ⟨hp, g, d, tk, os⟩ _ h1 q
    wp_walk using q1
    refine wpAny_stack_any fun st => wpAny_pure ?_
    split
    · rename_i c _ _ _ _ _
      cases (c == Value.type "enumerate") <;> (wp_walk using q1; exact ⟨_, rfl, h⟩)
    · wp_walk using q1; exact ⟨_, rfl, h⟩
theorem call_enum1 {prog : Program} {w : World} {A : Around} {E : Value → Shared → Prop} {s : Shared} {v : Value} {o : Obj} {Hq : Heap → Prop} {Q : Value → Shared → Prop} (B : Begins v o Hq) (h1 : Hq s.heap)
    (h : ∀ h', IsEnum h' (s.heap.objs.size + 1) s.heap.objs.size 0 .none → h'.get? s.heap.objs.size = some o → (∀ b u, s.heap.get? b = some u → h'.get? b = some u) → Q (.ref (s.heap.objs.size + 1)) { s with heap := h' }) : wpAny (model prog w) A (call (.type "enumerate") [v]) Q E s := by
  refine callType_new F.called_enumerate (by decide) (F.typeCall_enumerate_1 _) (F.newCall_enumerate_1 _) (fun obj => F.args_object_init_2 obj _) F.entry_enumerate_new (enum_new1 B) ⟨h1, ?_⟩
  have hz : (s.heap.push o).objs.size = s.heap.objs.size + 1 := Heap.size_push ..
  show _ ∧ _
  rw [hz]
  have he : IsEnum ((s.heap.push o).push { cls := .type "enumerate", data := .fields #[.none, .bool false, .ref s.heap.objs.size, rawInt 0, .none, .none] }) (s.heap.objs.size + 1) s.heap.objs.size 0 .none := by
    have e := Heap.get?_push_size (s.heap.push o) (o := { cls := .type "enumerate", data := .fields #[.none, .bool false, .ref s.heap.objs.size, rawInt 0, .none, .none] }) rfl
    rwa [hz] at e
  exact ⟨⟨_, he, rfl⟩, h _ he (Heap.get?_push_of_some _ (Heap.get?_push_size _ B.free)) fun b u x => Heap.get?_push_of_some _ (Heap.get?_push_of_some _ x)⟩
/-- the tuple at a as it stands at each turn, each item in a new pair with its place -/
def IteT (K : PySem.W.Frag) (a : Addr) : It where
  go := fun i H => ∃ xs x, SqT K H a xs ∧ xs[i]? = some x
  yld := fun i H v H' => ∃ T x, v = .ref T ∧ H T = none ∧ H' = upd H T (.tup [.int (i : Nat), x]) ∧ ∀ us, SqT K H a us → us[i]? = some x
  stop := fun i H => ∃ xs, SqT K H a xs ∧ i = xs.length
section
variable {P : Program} {w : World} {K : PySem.W.Frag} {es : List Expr} {n : Nat} {tp : Pos}
theorem turn_enumT {a e t : Addr} (ne : e ≠ t) (na : a ≠ t) (ae : a ≠ e) : Turn P w K (.Tuple es n tp) (IteT K a) [e, t] e (fun k h => (∃ old, IsEnum h e t (k : Int) old) ∧ h.IsTupleIter t a k) := by
  refine { mem := by simp, obj := ?obj, keep := ?keep, item := ?item, done := ?done, self := fun _ _ _ _ _ st h => let ⟨⟨_, q⟩, _⟩ := st; wpAny_pyIter_enum q h }
  case obj =>
    rintro k h ⟨⟨old, s1⟩, ⟨o1, p1, _, p2⟩⟩ c hc
    rcases List.mem_cons.mp hc with rfl | hc
    · exact ⟨_, s1, fun v q => nomatch q⟩
    · rw [List.mem_singleton.mp hc]
      exact ⟨o1, p1, fun v q => by rw [p2] at q; cases q⟩
  case keep =>
    rintro k h h' ⟨⟨old, s1⟩, s2⟩ kp
    exact ⟨⟨old, kp e (by simp) _ s1⟩, s2.at fun _ q => kp t (by simp) _ q⟩
  case item =>
    rintro X rfl rfl rfl hc k pins s σ H E I hf ⟨⟨old, s1⟩, s2⟩ ⟨xs, x, qx, gx⟩
    obtain ⟨its, r1, p1, _⟩ := I.tuple qx
    obtain ⟨w1, f1, rw1⟩ := r1.get gx
    have b1 : k < its.toArray.size := by rw [List.size_toArray]; exact (List.getElem?_eq_some_iff.mp f1).1
    have hh : X.A.in1.handled = none := I.ok.hd hc
    have elt := Heap.lt_size s1
    have hef : e ∉ [t, a] := fun hm => by
      rcases List.mem_cons.mp hm with q | q
      · exact ne q
      · exact ae (List.mem_singleton.mp q).symm
    refine wpAny_pyNext_enum_itemD (Draws.tuple hh t a na its.toArray) s1 ⟨s2, p1⟩ b1 ne hef fun x1 h' tk hP ho hs' hT hsz hk => ?_
    have ex1 : x1 = w1 := by
      have : its[k]? = some x1 := by simpa using hP
      rw [f1] at this; exact (Option.some.inj this).symm
    subst ex1
    refine ⟨_, rfl, wpAny_letOwnedTupleGo_enum (s := { s with heap := h', toks := tk + 1 }) ho fun h2 he2 sb => ?_⟩
    have g2 : ∀ c ob, c ≠ e → h'.get? c = some ob → h2.get? c = some ob := fun c ob nc q => (sb.2 c nc).trans q
    have T2 := g2 _ _ (Nat.ne_of_gt elt) hT
    have nw : ObjOk X.prog X.w (upd H s.heap.objs.size (.tup [.int (k : Nat), x])) h2 s.heap.objs.size (.tup [.int (k : Nat), x]) := ⟨(by show 2 ≤ sizeLine; decide), [.int k tk, x1], .cons ⟨_, rfl⟩ (.cons rw1 .nil), ⟨_, T2, rfl, _, rfl⟩⟩
    have I1 : Inv X pins σ (upd H s.heap.objs.size (.tup [.int (k : Nat), x])) { s with heap := h2, toks := tk + 1 } := I.turnedNew (ch := [e, t]) (fun c ob hb q => by
      have n1 : c ≠ e := fun z => hb (by simp [z])
      have n2 : c ≠ t := fun z => hb (by simp [z])
      exact g2 _ _ n1 (hk c ob n1 n2 q)) hf (Nat.le_refl _) nw
    refine ⟨.ref s.heap.objs.size, _, I1, rfl, ⟨_, x, rfl, I.hok.fresh (Nat.le_refl _), rfl, fun us hu => by rw [I.tuple_inj hu qx]; exact gx⟩, ⟨⟨x1, ?_⟩, hs'.1.at fun _ q => g2 _ _ (Ne.symm ne) q⟩, fun c hcm => ?_⟩
    · have e1 : ((k + 1 : Nat) : Int) = (k : Int) + 1 := by omega
      rw [e1]; exact he2
    · have lt : c < s.heap.objs.size := by
        rcases List.mem_cons.mp hcm with rfl | hcm
        · exact elt
        · rw [List.mem_singleton.mp hcm]
          obtain ⟨_, q, _⟩ := s2; exact Heap.lt_size q
      rw [upd_ne (Nat.ne_of_lt lt)]
      exact (hf c hcm).1
  case done =>
    rintro X rfl rfl rfl hc k pins s σ H E I hf ⟨⟨old, s1⟩, s2⟩ ⟨xs, qx, l1⟩
    obtain ⟨its, r1, p1, _⟩ := I.tuple qx
    have n1 : its.toArray.size = xs.length := by rw [List.size_toArray]; exact r1.length.symm
    have hh : X.A.in1.handled = none := I.ok.hd hc
    have s2' : s.heap.IsTupleIter t a its.toArray.size := by rw [n1, ← l1]; exact s2
    refine wpAny_pyNext_enum_endD (Draws.tuple hh t a na its.toArray) s1 ⟨s2', p1⟩ fun h' kp => ⟨rfl, I.turnedL (ch := [e, t]) (fun c ob hb q => ?_) hf⟩
    exact kp c ob (fun z => hb (by simp [z])) q
end
def iEnumT (K : PySem.W.Frag) (ta : TA) : TI := fun σ H R => ta σ H fun vs H1 => ∃ a xs, vs = [.ref a] ∧ SqT K H1 a xs ∧ R (IteT K a) H1
theorem pi_enumT {X : Cx} {e : Expr} {ta : TA} {p pos tp : Pos} {es : List Expr} {n : Nat} (hg : Gl X "enumerate") (hm : X.mg "enumerate" = none) (ha : PA X [e] ta) (hs : starEach [e] X.env = [(false, eval e X.env)] := by rfl) : PI X (.Tuple es n tp) (.Call (.Name "enumerate" p) [e] [] pos) (iEnumT X.K ta) := by
  constructor
  intro pins s σ H R I h
  refine Call_ (ld_blt I hg hm boot_enumerate (PyProof.Rows.callWith_type1 (thn (ha.run pos pins s σ H _ I h) ?_) hs rfl))
  rintro us s1 ⟨vs, H1, I1, r1, a, xs, rfl, qx, q⟩
  obtain ⟨v1, rfl, rv1⟩ := vals1 r1
  cases rv1
  obtain ⟨its, _, p1, _⟩ := I1.tuple qx
  have alt : a < s1.heap.objs.size := by obtain ⟨_, g1, _⟩ := id p1; exact Heap.lt_size g1
  refine call_enum1 (begins_tuple a its.toArray) p1 fun h' he hit kp => wpAny_pyIter_enum he ?_
  refine ⟨s1.heap.objs.size + 1, [s1.heap.objs.size + 1, s1.heap.objs.size], _, _, H1, rfl, I1.kept (t' := s1.toks) kp, turn_enumT (Nat.succ_ne_self _) (Nat.ne_of_lt alt) (Nat.ne_of_lt (Nat.lt_succ_of_lt alt)), ⟨⟨.none, he⟩, ⟨_, hit, rfl, rfl⟩⟩, fun c hc => ?_, q⟩
  have le : s1.heap.objs.size ≤ c := by
    rcases List.mem_cons.mp hc with rfl | hc
    · exact Nat.le_add_right _ _
    · rw [List.mem_singleton.mp hc]; exact Nat.le_refl _
  exact I1.fpOk le (I1.hok.fresh le)
/-- a loop over enumerate of a tuple -/
theorem for_enumT {K : PySem.W.Frag} {a : Addr} {xs : List V} {g : TG} {tb : TS} {D : Ends} {σ : L2.St} {H : Hp} (Pv : Nat → L2.St → Hp → Prop) (h0 : Pv 0 σ H) (hq : ∀ i σ H, Pv i σ H → SqT K H a xs)
    (hs : ∀ (i : Nat) (x : V) (T : Addr) (σ : L2.St) (H : Hp), xs[i]? = some x → Pv i σ H → H T = none → g (.ref T) σ (upd H T (.tup [.int (i : Nat), x])) fun σ2 H2 => tb { D with nx := Pv (i + 1), ct := Pv (i + 1), bk := D.nx } σ2 H2) (hd : ∀ σ H, Pv xs.length σ H → D.nx σ H) :
    ∃ W : Nat → Nat → L2.St → Hp → Prop, (∃ m, W 0 m σ H) ∧ ∀ i m σ H, W i m σ H → ((IteT K a).stop i H ∧ D.nx σ H) ∨ ((IteT K a).go i H ∧ ∃ N : L2.St → Hp → Prop, (∀ σ' H', N σ' H' → ∃ m', m' < m ∧ W (i + 1) m' σ' H') ∧ ∀ v H', (IteT K a).yld i H v H' → g v σ H' fun σ2 H2 => tb { D with nx := N, ct := N, bk := D.nx } σ2 H2) := by
  refine ⟨fun i m σ H => m = xs.length - i ∧ i ≤ xs.length ∧ Pv i σ H, ⟨_, rfl, Nat.zero_le _, h0⟩, ?_⟩
  rintro i m σ H ⟨rfl, hi, p⟩
  have qx := hq i σ H p
  by_cases hlt : i < xs.length
  · refine .inr ⟨⟨xs, xs[i], qx, List.getElem?_eq_getElem hlt⟩, Pv (i + 1), fun σ' H' p' => ⟨_, by omega, rfl, hlt, p'⟩, ?_⟩
    rintro v H' ⟨T, x', rfl, hT, rfl, f1⟩
    exact hs i x' T σ H (f1 xs qx) p hT
  · obtain rfl : i = xs.length := by omega
    exact .inl ⟨⟨xs, qx, rfl⟩, hd σ H p⟩
/-- a loop over enumerate of a list -/
theorem for_enumL {K : PySem.W.Frag} {a : Addr} {xs : List V} {g : TG} {tb : TS} {D : Ends} {σ : L2.St} {H : Hp} (Pv : Nat → L2.St → Hp → Prop) (h0 : Pv 0 σ H) (hq : ∀ i σ H, Pv i σ H → SqL K H a xs)
    (hs : ∀ (i : Nat) (x : V) (T : Addr) (σ : L2.St) (H : Hp), xs[i]? = some x → Pv i σ H → H T = none → g (.ref T) σ (upd H T (.tup [.int (i : Nat), x])) fun σ2 H2 => tb { D with nx := Pv (i + 1), ct := Pv (i + 1), bk := D.nx } σ2 H2) (hd : ∀ σ H, Pv xs.length σ H → D.nx σ H) :
    ∃ W : Nat → Nat → L2.St → Hp → Prop, (∃ m, W 0 m σ H) ∧ ∀ i m σ H, W i m σ H → ((Ite K a).stop i H ∧ D.nx σ H) ∨ ((Ite K a).go i H ∧ ∃ N : L2.St → Hp → Prop, (∀ σ' H', N σ' H' → ∃ m', m' < m ∧ W (i + 1) m' σ' H') ∧ ∀ v H', (Ite K a).yld i H v H' → g v σ H' fun σ2 H2 => tb { D with nx := N, ct := N, bk := D.nx } σ2 H2) := by
  refine ⟨fun i m σ H => m = xs.length - i ∧ i ≤ xs.length ∧ Pv i σ H, ⟨_, rfl, Nat.zero_le _, h0⟩, ?_⟩
  rintro i m σ H ⟨rfl, hi, p⟩
  have qx := hq i σ H p
  by_cases hlt : i < xs.length
  · refine .inr ⟨⟨xs, xs[i], qx, List.getElem?_eq_getElem hlt⟩, Pv (i + 1), fun σ' H' p' => ⟨_, by omega, rfl, hlt, p'⟩, ?_⟩
    rintro v H' ⟨T, x', rfl, hT, rfl, f1⟩
    exact hs i x' T σ H (f1 xs qx) p hT
  · obtain rfl : i = xs.length := by omega
    exact .inl ⟨⟨xs, qx, Nat.le_refl _⟩, hd σ H p⟩
theorem iteT' {c : Bool} {A B : Prop} (e : c = true) (h : A) : if c = true then A else B := by rw [if_pos e]; exact h
theorem iteF' {c : Bool} {A B : Prop} (e : c = false) (h : B) : if c = true then A else B := by rw [if_neg (by rw [e]; decide)]; exact h
end KG

/-! whole numbers as words: what is written for an int, and which words are read -/
namespace KG
open PySem PySem.Spec PyProof.Rows L2
open NumText (AllDigits digitsVal)
def numS (n : Int) : Str := toString n
def dec : List Nat := ("0123456789" : Str).cps.toList
def digs (x : Str) : Str := if cutS x none (some 1) = "-" then cutS x (some 1) none else x
def isWhole (x : Str) : Bool := decide (1 ≤ (digs x).length) && decide ((digs x).length ≤ 30) && (digs x).cps.toList.all (fun c => decide (c ∈ dec)) && (decide (x = "0") || decide ((digs x).cps[0]? ≠ some 48))
theorem cutS_le (z : Str) (lo hi : Option Int) : (cutS z lo hi).length ≤ z.length := by
  show ((z.cps.toList.drop _).take _).toArray.size ≤ z.cps.size
  rw [List.size_toArray, List.length_take, List.length_drop, Array.length_toList]
  omega
theorem digs_le (x : Str) : (digs x).length ≤ x.length := by
  unfold digs
  split
  · exact cutS_le _ _ _
  · exact Nat.le_refl _
/-! signs -/
def bodyL : List Nat → List Nat
  | 45 :: r => r
  | l => l
theorem tl_cut1 (x : Str) : TL.tl (cutS x none (some 1)) = (TL.tl x).take 1 := by
  show ((x.cps.toList.drop 0).take (min 1 x.length - 0)) = _
  rw [List.drop_zero, Nat.sub_zero]
  show x.cps.toList.take (min 1 x.cps.size) = x.cps.toList.take 1
  rw [← Array.length_toList]
  rcases x.cps.toList with _ | ⟨a, r⟩
  · rfl
  · rw [List.length_cons, Nat.min_eq_left (by omega)]
theorem tl_from1 (x : Str) : TL.tl (cutS x (some 1) none) = (TL.tl x).drop 1 := by
  show ((x.cps.toList.drop (min 1 x.length)).take (x.length - min 1 x.length)) = _
  show ((x.cps.toList.drop (min 1 x.cps.size)).take (x.cps.size - min 1 x.cps.size)) = x.cps.toList.drop 1
  rw [← Array.length_toList]
  rcases x.cps.toList with _ | ⟨a, r⟩
  · rfl
  · rw [List.length_cons, Nat.min_eq_left (by omega)]
    exact List.take_of_length_le (by rw [List.length_drop, List.length_cons]; omega)
theorem tl_minus : TL.tl "-" = [45] := by decide +kernel
theorem tl_zero : TL.tl "0" = [48] := by decide +kernel
theorem tl_digs (x : Str) : TL.tl (digs x) = bodyL (TL.tl x) := by
  unfold digs
  by_cases h : cutS x none (some 1) = "-"
  · rw [if_pos h, tl_from1]
    have e := congrArg TL.tl h
    rw [tl_cut1, tl_minus] at e
    rcases hx : TL.tl x with _ | ⟨a, r⟩
    · rfl
    · rw [hx] at e
      obtain rfl : a = 45 := (List.cons.inj e).1
      rfl
  · rw [if_neg h]
    rcases hx : TL.tl x with _ | ⟨a, r⟩
    · rfl
    · have na : a ≠ 45 := fun z => h (TL.ext_tl (by rw [tl_cut1, hx, z, tl_minus]; rfl))
      unfold bodyL
      split
      · rename_i q
        exact absurd (List.cons.inj q).1 na
      · rfl
theorem mem_dec {c : Nat} : c ∈ dec ↔ 48 ≤ c ∧ c ≤ 57 := by
  rw [show dec = [48, 49, 50, 51, 52, 53, 54, 55, 56, 57] by decide +kernel]
  constructor
  · intro h
    simp at h
    omega
  · intro h
    simp
    omega
def canon (l : List Nat) : Prop := bodyL l ≠ [] ∧ (bodyL l).length ≤ 30 ∧ AllDigits (bodyL l) ∧ (l = [48] ∨ (bodyL l).head? ≠ some 48)
theorem whole_iff (x : Str) : isWhole x = true ↔ canon (TL.tl x) := by
  have l1 : (digs x).length = (bodyL (TL.tl x)).length := by rw [TL.len_tl, tl_digs]
  have l2 : (digs x).cps.toList = bodyL (TL.tl x) := tl_digs x
  have l3 : (digs x).cps[0]? = (bodyL (TL.tl x)).head? := by rw [← Array.getElem?_toList, l2, List.head?_eq_getElem?]
  have l4 : x = "0" ↔ TL.tl x = [48] := ⟨fun h => by rw [h, tl_zero], fun h => TL.ext_tl (by rw [h, tl_zero])⟩
  unfold isWhole canon
  rw [l1, l2, l3]
  simp only [Bool.and_eq_true, Bool.or_eq_true, decide_eq_true_eq, List.all_eq_true, l4]
  constructor
  · rintro ⟨⟨⟨h1, h2⟩, h3⟩, h4⟩
    exact ⟨fun e => by rw [e] at h1; exact absurd h1 (by decide), h2, fun c hc => mem_dec.mp (h3 c hc), h4⟩
  · rintro ⟨h1, h2, h3, h4⟩
    exact ⟨⟨⟨List.length_pos_iff.mpr h1, h2⟩, fun c hc => mem_dec.mpr (h3 c hc)⟩, h4⟩
theorem val_snoc (l : List Nat) (c : Nat) : digitsVal (l ++ [c]) = digitsVal l * 10 + (c - 48) := by
  unfold digitsVal
  rw [List.foldl_append]; rfl
theorem val_mono : ∀ (l : List Nat) (a : Nat), a ≤ l.foldl (fun acc c => acc * 10 + (c - 48)) a
  | [], _ => Nat.le_refl _
  | c :: r, a => Nat.le_trans (by omega) (val_mono r (a * 10 + (c - 48)))
theorem val_pos {l : List Nat} (h : AllDigits l) (h1 : l ≠ []) (h2 : l.head? ≠ some 48) : 1 ≤ digitsVal l := by
  cases l with
  | nil => exact absurd rfl h1
  | cons c r =>
    have hc := h.head
    have : c ≠ 48 := fun z => h2 (by rw [z]; rfl)
    unfold digitsVal
    rw [List.foldl_cons]
    exact Nat.le_trans (by omega) (val_mono r _)
theorem val_lt : ∀ (n : Nat) (l : List Nat), l.length ≤ n → AllDigits l → digitsVal l < 10 ^ n := by
  intro n
  induction n with
  | zero =>
    intro l hl h
    have : l = [] := List.length_eq_zero_iff.mp (by omega)
    rw [this]; decide
  | succ n ih =>
    intro l hl h
    by_cases e : l = []
    · rw [e]; exact Nat.pos_of_ne_zero (by simp [digitsVal])
    · have hd := List.dropLast_concat_getLast e
      have hc := h (l.getLast e) (List.getLast_mem e)
      have h1 := ih l.dropLast (by rw [List.length_dropLast]; omega) (fun c hc => h c (List.dropLast_subset _ hc))
      rw [← hd, val_snoc, Nat.pow_succ]
      omega
theorem num_val : ∀ (n : Nat) (l : List Nat), l.length ≤ n → AllDigits l → l ≠ [] → (l = [48] ∨ l.head? ≠ some 48) → TL.numL (digitsVal l) = l := by
  intro n
  induction n with
  | zero =>
    intro l hl h h1
    exact absurd (List.length_eq_zero_iff.mp (by omega)) h1
  | succ n ih =>
    intro l hl h h1 h2
    have hd := List.dropLast_concat_getLast h1
    have hc := h (l.getLast h1) (List.getLast_mem h1)
    generalize l.getLast h1 = c at hd hc
    generalize hr : l.dropLast = r at hd
    have lr : r.length ≤ n := by rw [← hr, List.length_dropLast]; omega
    have hrd : AllDigits r := fun d q => h d (by rw [← hd]; exact List.mem_append_left _ q)
    rw [← hd, val_snoc]
    cases r with
    | nil =>
      show TL.numL (0 * 10 + (c - 48)) = [c]
      rw [TL.numL_lt (by omega)]
      congr 1; omega
    | cons a q =>
      have h3 : (a :: q).head? ≠ some 48 := by
        rcases h2 with h2 | h2
        · rw [← hd] at h2
          exact absurd (congrArg List.length h2) (by simp)
        · rw [← hd] at h2
          exact h2
      have hp := val_pos hrd (by simp) h3
      rw [TL.numL_step (by omega), show (digitsVal (a :: q) * 10 + (c - 48)) / 10 = digitsVal (a :: q) by omega, show 48 + (digitsVal (a :: q) * 10 + (c - 48)) % 10 = c by omega, ih _ lr hrd (by simp) (.inr h3)]
def signs (n : Int) : List Nat := if n < 0 then 45 :: TL.numL n.natAbs else TL.numL n.natAbs
theorem tl_numS (n : Int) : TL.tl (numS n) = signs n := by
  unfold signs
  by_cases h : n < 0
  · rw [if_pos h]
    obtain ⟨m, rfl⟩ : ∃ m : Nat, n = Int.negSucc m := ⟨(-n - 1).toNat, by omega⟩
    have e : toString (Int.negSucc m) = "-" ++ toString (((m + 1 : Nat) : Int)) := rfl
    show (Str.ofString (toString (Int.negSucc m))).cps.toList = _
    rw [e]
    have e2 : ∀ a b : String, (Str.ofString (a ++ b)).cps.toList = (Str.ofString a).cps.toList ++ (Str.ofString b).cps.toList := fun a b => by
      rw [Str.ofString_eq_toList, Str.ofString_eq_toList, Str.ofString_eq_toList]
      show (a ++ b).toList.map Char.toNat = a.toList.map Char.toNat ++ b.toList.map Char.toNat
      rw [String.toList_append, List.map_append]
    rw [e2]
    show _ ++ TL.tl (Str.ofString (toString (((m + 1 : Nat) : Int)))) = _
    rw [TL.tl_num]; rfl
  · rw [if_neg h]
    obtain ⟨m, rfl⟩ := Int.eq_ofNat_of_zero_le (show 0 ≤ n by omega)
    exact TL.tl_num m
theorem numL_head {n : Nat} (h : n ≠ 0) : (TL.numL n).head? ≠ some 48 := by
  induction n using Nat.strongRecOn with
  | _ n ih =>
    by_cases h1 : n < 10
    · rw [TL.numL_lt h1]
      intro z
      have := Option.some.inj z
      omega
    · rw [TL.numL_step (by omega), List.head?_append]
      have := ih (n / 10) (by omega) (by omega)
      cases hq : (TL.numL (n / 10)).head? with
      | none => exact absurd (List.head?_eq_none_iff.mp hq) (TL.numL_ne _)
      | some z =>
        rw [hq] at this
        exact this
theorem bodyL_num (n : Nat) : bodyL (TL.numL n) = TL.numL n := by
  unfold bodyL
  split
  · rename_i r q
    exact absurd (show 45 ∈ TL.numL n by rw [q]; exact List.mem_cons_self) (TL.numL_free (.inl (by decide)))
  · rfl
theorem body_signs (n : Int) : bodyL (signs n) = TL.numL n.natAbs := by
  unfold signs
  by_cases h : n < 0
  · rw [if_pos h]; rfl
  · rw [if_neg h]; exact bodyL_num _
theorem canon_signs {n : Int} (h : n.natAbs < 10 ^ 30) : canon (signs n) := by
  unfold canon
  rw [body_signs]
  refine ⟨TL.numL_ne _, TL.numL_len (by decide) h, TL.numL_digits _, ?_⟩
  by_cases h0 : n = 0
  · rw [h0]; exact .inl (by decide +kernel)
  · exact .inr (numL_head (by omega))
theorem whole_num {n : Int} (h : n.natAbs < 10 ^ 30) : isWhole (numS n) = true := (whole_iff _).mpr (by rw [tl_numS]; exact canon_signs h)
theorem canon_read {x : Str} (h : isWhole x = true) : ∃ n : Int, intText? x = some n ∧ numS n = x ∧ n.natAbs < 10 ^ 30 ∧ x.length ≤ 31 := by
  obtain ⟨h1, h2, h3, h4⟩ := (whole_iff x).mp h
  have hv := val_lt 30 _ h2 h3
  by_cases hm : ∃ r, TL.tl x = 45 :: r
  · obtain ⟨r, hr⟩ := hm
    have hb : bodyL (TL.tl x) = r := by rw [hr]; rfl
    rw [hb] at h1 h2 h3 h4 hv
    have h4' : r.head? ≠ some 48 := by
      rcases h4 with h4 | h4
      · rw [hr] at h4
        exact absurd (List.cons.inj h4).1 (by decide)
      · exact h4
    have lx : x.length = r.length + 1 := by rw [TL.len_tl, hr, List.length_cons]
    have hp := val_pos h3 h1 h4'
    refine ⟨_, intText_neg hr h3 h1 (by omega), TL.ext_tl ?_, by omega, by omega⟩
    rw [tl_numS, signs, if_pos (by omega), hr, show (-((digitsVal r : Nat) : Int)).natAbs = digitsVal r by omega, num_val 30 r h2 h3 h1 (.inr h4')]
  · have hb : bodyL (TL.tl x) = TL.tl x := by
      unfold bodyL
      split
      · rename_i r q
        exact absurd ⟨r, q⟩ hm
      · rfl
    rw [hb] at h1 h2 h3 h4 hv
    have lx : x.length = (TL.tl x).length := TL.len_tl x
    refine ⟨_, intText_digits h3 h1 (by omega), TL.ext_tl ?_, by show ((digitsVal (TL.tl x) : Nat) : Int).natAbs < _; omega, by omega⟩
    rw [tl_numS, signs, if_neg (by show ¬ ((digitsVal (TL.tl x) : Nat) : Int) < 0; omega)]
    show TL.numL (digitsVal (TL.tl x)) = _
    exact num_val 30 _ h2 h3 h1 h4
theorem numS_inj {m n : Int} (h : numS m = numS n) : m = n := by
  have e := congrArg TL.tl h
  rw [tl_numS, tl_numS] at e
  have e2 := congrArg bodyL e
  rw [body_signs, body_signs] at e2
  have e3 := TL.numL_inj e2
  unfold signs at e
  by_cases h1 : m < 0 <;> by_cases h2 : n < 0
  · omega
  · rw [if_pos h1, if_neg h2] at e
    exact absurd (show 45 ∈ TL.numL n.natAbs by rw [← e]; exact List.mem_cons_self) (TL.numL_free (.inl (by decide)))
  · rw [if_neg h1, if_pos h2] at e
    exact absurd (show 45 ∈ TL.numL m.natAbs by rw [e]; exact List.mem_cons_self) (TL.numL_free (.inl (by decide)))
  · omega
theorem read_num {n : Int} (h : n.natAbs < 10 ^ 30) : intText? (numS n) = some n := by
  obtain ⟨m, h1, h2, _⟩ := canon_read (whole_num h)
  rw [h1, numS_inj h2]
theorem removeprefix_digs (x : Str) : Txt.removeprefix x "-" = digs x := by
  apply TL.ext_tl
  rw [tl_digs]
  unfold Txt.removeprefix
  have lm : ("-" : Str).length = 1 := by decide +kernel
  have es : Builtin.Str.subAt x "-" 0 = decide ((TL.tl x).take 1 = [45]) := by
    rw [StrLaws.subAt_eq, List.drop_zero, lm]
    show ((TL.tl x).take 1 == TL.tl "-") = _
    rw [tl_minus, Bool.eq_iff_iff]; simp
  rw [es, lm]
  rcases hx : TL.tl x with _ | ⟨a, r⟩
  · show TL.tl x = []
    exact hx
  · have lx : x.length = r.length + 1 := by rw [TL.len_tl, hx, List.length_cons]
    by_cases h : a = 45
    · subst h
      rw [if_pos (by simp)]
      show TL.tl (if x.length - 1 == x.length then x else Builtin.Str.strSub x 1 x.length) = r
      rw [if_neg (by rw [beq_iff_eq]; omega)]
      show (Builtin.Str.strSub x 1 x.length).cps.toList = r
      rw [StrLaws.strSub_toList]
      show ((TL.tl x).drop 1).take (x.length - 1) = r
      rw [hx, lx]
      exact List.take_of_length_le (by simp)
    · rw [if_neg (by simp [h])]
      show TL.tl x = bodyL (a :: r)
      rw [hx]
      unfold bodyL
      split
      · rename_i q
        exact absurd (List.cons.inj q).1 h
      · rfl
end KG

/-! what split and join give: never nothing, no new signs, no longer word -/
namespace KG
open PySem PySem.Spec PyProof.Rows L2
theorem spl_ne (S : List Nat) : ∀ (r : List Nat) (k : Nat) (acc : List Nat), TL.spl S k acc r ≠ []
  | [], k, acc => by rw [TL.spl_nil]; exact List.cons_ne_nil _ _
  | c :: r, 0, acc => by
    show (if TL.pre S (c :: r) = true then acc :: TL.spl S (S.length - 1) [] r else TL.spl S 0 (acc ++ [c]) r) ≠ []
    by_cases h : TL.pre S (c :: r) = true
    · rw [if_pos h]; exact List.cons_ne_nil _ _
    · rw [if_neg h]; exact spl_ne S r 0 _
  | _ :: r, k + 1, acc => spl_ne S r k acc
theorem spl_len (S : List Nat) : ∀ (r : List Nat) (k : Nat) (acc : List Nat), ∀ p ∈ TL.spl S k acc r, p.length ≤ acc.length + r.length
  | [], k, acc => by
    intro p hp
    rw [TL.spl_nil] at hp
    rw [List.mem_singleton.mp hp]; exact Nat.le_add_right _ _
  | c :: r, 0, acc => by
    intro p hp
    have hp : p ∈ (if TL.pre S (c :: r) = true then acc :: TL.spl S (S.length - 1) [] r else TL.spl S 0 (acc ++ [c]) r) := hp
    by_cases h : TL.pre S (c :: r) = true
    · rw [if_pos h] at hp
      rcases List.mem_cons.mp hp with h | h
      · rw [h]; exact Nat.le_add_right _ _
      · have := spl_len S r _ _ p h
        rw [List.length_nil] at this
        rw [List.length_cons]; omega
    · rw [if_neg h] at hp
      have := spl_len S r _ _ p hp
      rw [List.length_append, List.length_singleton] at this
      rw [List.length_cons]; omega
  | _ :: r, k + 1, acc => by
    intro p hp
    have := spl_len S r k acc p hp
    rw [List.length_cons]; omega
theorem spl_mem (S : List Nat) : ∀ (r : List Nat) (k : Nat) (acc : List Nat), ∀ p ∈ TL.spl S k acc r, ∀ c ∈ p, c ∈ acc ∨ c ∈ r
  | [], k, acc => by
    intro p hp c hc
    rw [TL.spl_nil] at hp
    rw [List.mem_singleton.mp hp] at hc; exact .inl hc
  | d :: r, 0, acc => by
    intro p hp c hc
    have hp : p ∈ (if TL.pre S (d :: r) = true then acc :: TL.spl S (S.length - 1) [] r else TL.spl S 0 (acc ++ [d]) r) := hp
    by_cases h : TL.pre S (d :: r) = true
    · rw [if_pos h] at hp
      rcases List.mem_cons.mp hp with h | h
      · rw [h] at hc; exact .inl hc
      · rcases spl_mem S r _ _ p h c hc with h | h
        · cases h
        · exact .inr (List.mem_cons_of_mem _ h)
    · rw [if_neg h] at hp
      rcases spl_mem S r _ _ p hp c hc with h | h
      · rcases List.mem_append.mp h with h | h
        · exact .inl h
        · rw [List.mem_singleton.mp h]; exact .inr List.mem_cons_self
      · exact .inr (List.mem_cons_of_mem _ h)
  | _ :: r, k + 1, acc => by
    intro p hp c hc
    rcases spl_mem S r k acc p hp c hc with h | h
    · exact .inl h
    · exact .inr (List.mem_cons_of_mem _ h)
theorem spl_count (S : List Nat) : ∀ (r : List Nat) (k : Nat) (acc : List Nat), (TL.spl S k acc r).length ≤ r.length + 1
  | [], k, acc => by rw [TL.spl_nil]; exact Nat.le_refl _
  | c :: r, 0, acc => by
    show (if TL.pre S (c :: r) = true then acc :: TL.spl S (S.length - 1) [] r else TL.spl S 0 (acc ++ [c]) r).length ≤ _
    by_cases h : TL.pre S (c :: r) = true
    · rw [if_pos h, List.length_cons, List.length_cons]
      have := spl_count S r (S.length - 1) []
      omega
    · rw [if_neg h, List.length_cons]
      have := spl_count S r 0 (acc ++ [c])
      omega
  | _ :: r, k + 1, acc => by
    have := spl_count S r k acc
    rw [List.length_cons]; exact Nat.le_succ_of_le this
/-- a separator of one plain sign -/
structure Sep (y : Str) (s : Nat) : Prop where
  tl : TL.tl y = [s]
  lo : y.cps.all (· < 256) = true
theorem sep_blank : Sep " " 32 := ⟨by decide +kernel, by decide +kernel⟩
theorem sep_line : Sep "\n" 10 := ⟨by decide +kernel, by decide +kernel⟩
section
variable {y : Str} {s : Nat}
theorem Sep.split (h : Sep y s) (x : Str) : (Txt.split x y).map TL.tl = TL.spl [s] 0 [] (TL.tl x) := by
  rw [← h.tl]
  exact TL.split_spl x y (by rw [h.tl]; exact List.cons_ne_nil _ _) (TL.kind_ok h.lo)
theorem Sep.ne (h : Sep y s) (x : Str) : Txt.split x y ≠ [] := fun e => spl_ne [s] (TL.tl x) 0 [] (by rw [← h.split, e]; rfl)
theorem Sep.len (h : Sep y s) (x : Str) : ∀ p ∈ Txt.split x y, p.length ≤ x.length := fun p hp => by
  have q := spl_len [s] (TL.tl x) 0 [] (TL.tl p) (by rw [← h.split]; exact List.mem_map_of_mem hp)
  rw [TL.len_tl, TL.len_tl]
  simpa using q
theorem Sep.mem (h : Sep y s) (x : Str) : ∀ p ∈ Txt.split x y, ∀ c ∈ TL.tl p, c ∈ TL.tl x := fun p hp c hc => by
  rcases spl_mem [s] (TL.tl x) 0 [] (TL.tl p) (by rw [← h.split]; exact List.mem_map_of_mem hp) c hc with q | q
  · cases q
  · exact q
theorem Sep.count (h : Sep y s) (x : Str) : (Txt.split x y).length ≤ x.length + 1 := by
  have q := spl_count [s] (TL.tl x) 0 []
  rw [← h.split, List.length_map, ← TL.len_tl] at q
  exact q
theorem Sep.back (h : Sep y s) {parts : List Str} (hne : parts ≠ []) (hp : ∀ p ∈ parts, s ∉ TL.tl p) : Txt.split (Txt.join y parts) y = parts := TL.split_join h.tl h.lo hne hp
theorem join_of_split (x y : Str) : Txt.join y (Txt.split x y) = x := by rw [TL.join_eq]; exact StrLaws.join_split x y
theorem joinL_mem {S : List Nat} : ∀ {ps : List (List Nat)}, ∀ c ∈ TL.joinL S ps, c ∈ S ∨ ∃ p ∈ ps, c ∈ p
  | [], c, h => by cases h
  | [p], c, h => .inr ⟨p, List.mem_singleton.mpr rfl, h⟩
  | p :: q :: r, c, h => by
    have h : c ∈ p ++ (S ++ TL.joinL S (q :: r)) := h
    rcases List.mem_append.mp h with h | h
    · exact .inr ⟨p, List.mem_cons_self, h⟩
    rcases List.mem_append.mp h with h | h
    · exact .inl h
    rcases joinL_mem c h with h | ⟨z, hz, h⟩
    · exact .inl h
    · exact .inr ⟨z, List.mem_cons_of_mem _ hz, h⟩
theorem Sep.join_mem (h : Sep y s) (ps : List Str) : ∀ c ∈ TL.tl (Txt.join y ps), c = s ∨ ∃ p ∈ ps, c ∈ TL.tl p := fun c hc => by
  rw [TL.join_eq, TL.tl_join, h.tl] at hc
  rcases joinL_mem c hc with q | ⟨z, hz, q⟩
  · exact .inl (List.mem_singleton.mp q)
  · obtain ⟨p, hp, rfl⟩ := List.mem_map.mp hz
    exact .inr ⟨p, hp, q⟩
theorem joinL_len {s : Nat} : ∀ ps : List (List Nat), (TL.joinL [s] ps).length ≤ (ps.map (·.length)).sum + ps.length
  | [] => Nat.le_refl _
  | [p] => by simp [TL.joinL]
  | p :: q :: r => by
    have h := joinL_len (s := s) (q :: r)
    show (p ++ ([s] ++ TL.joinL [s] (q :: r))).length ≤ _
    rw [List.length_append, List.length_append, List.length_singleton, List.map_cons, List.sum_cons, List.length_cons]
    omega
theorem Sep.join_len (h : Sep y s) (ps : List Str) : (Txt.join y ps).length ≤ (ps.map (·.length)).sum + ps.length := by
  have q := joinL_len (s := s) (ps.map TL.tl)
  rw [List.map_map, List.length_map] at q
  rw [TL.join_eq, TL.len_tl, TL.tl_join, h.tl, show (ps.map (·.length)) = ps.map ((fun x => x.length) ∘ TL.tl) from List.map_congr_left fun p _ => TL.len_tl p]
  exact q
end
theorem sum_le {ps : List Str} {B : Nat} (h : ∀ p ∈ ps, p.length ≤ B) : (ps.map (·.length)).sum ≤ B * ps.length := by
  induction ps with
  | nil => exact Nat.zero_le _
  | cons p r ih =>
    rw [List.map_cons, List.sum_cons, List.length_cons, Nat.mul_succ]
    have h1 := h p List.mem_cons_self
    have h2 := ih fun q hq => h q (List.mem_cons_of_mem _ hq)
    omega
end KG

/-! d.get(text), d.get(text, x): d a dict of the module with texts for keys and ints for values -/
namespace KG
open PySem PySem.Spec PyProof.Rows L2
inductive EsAt (P : Params) : List DictEntry → List (Str × Int) → Prop
  | nil : EsAt P [] []
  | cons {k : Str} {v : Int} {t u : Tok} {l : List DictEntry} {r : List (Str × Int)} : EsAt P l r → EsAt P (⟨PyData.keyHash P k, .str k t, .int v u⟩ :: l) ((k, v) :: r)
def KDi (K : PySem.W.Frag) (w : World) (d : Addr) (kvs : List (Str × Int)) : Prop := ∃ es n, K.lookup d = some ⟨.type "dict", none, .dict es n, #[]⟩ ∧ EsAt w.params es.toList kvs ∧ (d == sysModules) = false
theorem EsAt.lit {P : Params} {l : List DictEntry} {r : List (Str × Int)} (h : EsAt P l r) : PySem.W.KeysLit P l := by
  induction h with
  | nil => trivial
  | cons _ ih => exact ⟨⟨_, _, rfl, rfl⟩, ih⟩
theorem EsAt.find {P : Params} {l : List DictEntry} {r : List (Str × Int)} (h : EsAt P l r) (z : Str) : ((r.lookup z = none ∧ (l.find? fun e => Value.isStrOf z e.key).map (·.val) = none) ∨ ∃ v u, r.lookup z = some v ∧ (l.find? fun e => Value.isStrOf z e.key).map (·.val) = some (.int v u)) := by
  induction h with
  | nil => exact .inl ⟨rfl, rfl⟩
  | @cons k v t u l r _ ih =>
    by_cases e : k = z
    · refine .inr ⟨v, u, ?_, ?_⟩
      · rw [List.lookup_cons, show (z == k) = true by rw [e]; exact beq_self_eq_true z]
      · rw [List.find?_cons, show Value.isStrOf z (Value.str k t) = true from by show (k == z) = true; rw [e]; exact beq_self_eq_true z]; rfl
    · have e1 : (z == k) = false := by rw [beq_eq_false_iff_ne]; exact fun q => e q.symm
      have e2 : (k == z) = false := by rw [beq_eq_false_iff_ne]; exact e
      rw [List.lookup_cons, e1, List.find?_cons, show Value.isStrOf z (Value.str k t) = false from e2]
      exact ih
def kdOr (kvs : List (Str × Int)) (z : Str) (d : V) : V := match kvs.lookup z with
  | some v => .int v
  | none => d
theorem KDi.found {K : PySem.W.Frag} {w : World} {d : Addr} {kvs : List (Str × Int)} (h : KDi K w d kvs) {X : Cx} {pins : List (Addr × Obj)} {σ : L2.St} {H : Hp} {s : Shared} (I : Inv X pins σ H s) (eK : X.K = K) (eW : X.w = w) (z : Str) :
    (d == sysModules) = false ∧ ∃ f, s.heap.MapOf (strKind X.prog X.w) d f ∧ (∀ (b : Value), Value.ref d = b → s.TypeIs b "dict" ∧ ∀ a, b = .ref a → ∃ ob, s.heap.get? a = some ob ∧ ob.dict = none) ∧ ∀ (df : V) (dv : Value), RelV df dv → RelV (kdOr kvs z df) ((f z).getD dv) := by
  subst eK eW
  obtain ⟨es, n, hl, he, low⟩ := h
  have hm := PySem.W.mapOf_K (prog := X.prog) (w := X.w) I.kIn hl he.lit
  refine ⟨low, _, hm, ?_, ?_⟩
  · rintro b rfl
    refine ⟨hm.typeIs, ?_⟩
    rintro a e
    cases e
    exact ⟨_, I.kIn _ _ hl, rfl⟩
  · intro df dv hd
    show RelV (kdOr kvs z df) (((es.find? fun e => Value.isStrOf z e.key).map (·.val)).getD dv)
    rw [← Array.find?_toList]
    unfold kdOr
    rcases he.find z with ⟨e1, e2⟩ | ⟨v, u, e1, e2⟩
    · rw [e1, e2]; exact hd
    · rw [e1, e2]; exact ⟨u, rfl⟩
def tKGet1 (K : PySem.W.Frag) (w : World) (td ty : TE) : TE := fun σ H Q => td σ H fun x H1 => ∃ a kvs, x = .ref a ∧ KDi K w a kvs ∧ ty σ H1 fun y H2 => ∃ z, y = .str z ∧ Q (kdOr kvs z .non) H2
def tKGet2 (K : PySem.W.Frag) (w : World) (td ty tx : TE) : TE := fun σ H Q => td σ H fun x H1 => ∃ a kvs, x = .ref a ∧ KDi K w a kvs ∧ ty σ H1 fun y H2 => tx σ H2 fun d H3 => ∃ z, y = .str z ∧ Q (kdOr kvs z d) H3
section
variable {X : Cx} {o e f : Expr} {apos cpos : Pos} {td ty tx : TE}
theorem pe_kget1 (ho : PE X o td) (he : PE X e ty) (m : M1 X o "get" apos e cpos) : PE X (.Call (.Attribute o "get" apos) [e] [] cpos) (tKGet1 X.K X.w td ty) := by
  constructor
  intro pins s σ H Q I h
  refine wpAny_Call_method m.base m.few m.line PySem.F.plainAttrs_dict PySem.F.slot_dict_get PySem.F.type_dict_get (thn (ho.run pins s σ H _ I h) ?_)
  rintro u s1 ⟨x, H1, I1, rx, a, kvs, rfl, d, q1⟩
  cases (show u = Value.ref a from rx)
  obtain ⟨_, _, _, t1, _⟩ := d.found I1 rfl rfl ""
  obtain ⟨t1, t2⟩ := t1 _ rfl
  refine ⟨t1, t2, ?_⟩
  rw [m.trees]
  refine Calls.callWith_builtin rfl (Calls.evalArgs_plain (Calls.spliced_cons (thn (he.run pins s1 σ H1 _ I1 q1) ?_)))
  rintro iv s2 ⟨y, H2, I2, ry, z, rfl, q2⟩
  refine Calls.spliced_nil ?_
  obtain ⟨t, rfl⟩ := ry
  obtain ⟨low, f, hm, _, hv⟩ := d.found I2 rfl rfl z
  exact call_meetsIn PySem.F.slot_dict_get hm.typeIs PySem.F.entry_dict_get (PySem.F.args_dict_get_2 _ _) (meets_dict_get (strKind X.prog X.w) a (strKind_is X.prog X.w z t) low) ⟨f, hm, _, H2, I2.tok _, hv .non .none rfl, q2⟩
theorem pe_kget2 (ho : PE X o td) (he : PE X e ty) (hf : PE X f tx) (m : M2 X o "get" apos e f cpos) : PE X (.Call (.Attribute o "get" apos) [e, f] [] cpos) (tKGet2 X.K X.w td ty tx) := by
  constructor
  intro pins s σ H Q I h
  refine wpAny_Call_method m.base m.few m.line PySem.F.plainAttrs_dict PySem.F.slot_dict_get PySem.F.type_dict_get (thn (ho.run pins s σ H _ I h) ?_)
  rintro u s1 ⟨x, H1, I1, rx, a, kvs, rfl, d, q1⟩
  cases (show u = Value.ref a from rx)
  obtain ⟨_, _, _, t1, _⟩ := d.found I1 rfl rfl ""
  obtain ⟨t1, t2⟩ := t1 _ rfl
  refine ⟨t1, t2, ?_⟩
  rw [m.trees]
  refine Calls.callWith_builtin rfl (Calls.evalArgs_plain (Calls.spliced_cons (thn (he.run pins s1 σ H1 _ I1 q1) ?_)))
  rintro iv s2 ⟨y, H2, I2, ry, q2⟩
  refine Calls.spliced_cons (thn (hf.run pins s2 σ H2 _ I2 q2) ?_)
  rintro fv s3 ⟨d3, H3, I3, r3, z, rfl, q3⟩
  refine Calls.spliced_nil ?_
  obtain ⟨t, rfl⟩ := ry
  obtain ⟨low, f, hm, _, hv⟩ := d.found I3 rfl rfl z
  exact call_meetsIn PySem.F.slot_dict_get hm.typeIs PySem.F.entry_dict_get (PySem.F.args_dict_get_3 _ _ _) (meets_dict_get_default (strKind X.prog X.w) a (strKind_is X.prog X.w z t) low fv) ⟨f, hm, _, H3, I3.tok _, hv d3 fv r3, q3⟩
end
end KG

/-! text * int -/
namespace KG
open PySem PySem.Spec PyProof.Rows L2
def repS (x : Str) (n : Nat) : Str := ⟨(List.replicate n x.cps).foldl (· ++ ·) #[]⟩
theorem rep_fold (a : Array Nat) : ∀ (n : Nat) (b : Array Nat), ((List.replicate n a).foldl (· ++ ·) b).toList = b.toList ++ (List.replicate n a.toList).flatten
  | 0, b => by simp
  | n + 1, b => by
    rw [List.replicate_succ, List.foldl_cons, rep_fold a n (b ++ a), Array.toList_append, List.append_assoc]; rfl
theorem tl_rep (x : Str) (n : Nat) : TL.tl (repS x n) = (List.replicate n (TL.tl x)).flatten := by
  show ((List.replicate n x.cps).foldl (· ++ ·) #[]).toList = _
  rw [rep_fold]; rfl
theorem len_rep (x : Str) (n : Nat) : (repS x n).length = n * x.length := by
  rw [TL.len_tl, tl_rep, TL.len_tl x]
  induction n with
  | zero => rw [Nat.zero_mul]; rfl
  | succ n ih => rw [List.replicate_succ, List.flatten_cons, List.length_append, ih, Nat.succ_mul, Nat.add_comm]
def rRepS : R2 := fun x y H Q => ∃ z n, x = .str z ∧ y = .int n ∧ 2 ≤ n ∧ n ≤ 1000 ∧ 1 ≤ z.length ∧ z.length ≤ 1000 ∧ Q (.str (repS z n.toNat)) H
theorem op_repS {X : Cx} : OpR X (binaryOp .Mult) rRepS := by
  intro pins s σ H x y v u Q I rx ry h
  obtain ⟨z, n, rfl, rfl, h2, h3, h4, h5, q⟩ := h
  obtain ⟨t, rfl⟩ := rx
  obtain ⟨t', rfl⟩ := ry
  have hn : ¬ n < 1 := by omega
  have hc : ¬ ((n == 1 || z.length == 0) = true) := by
    rw [Bool.or_eq_true, beq_iff_eq, beq_iff_eq]
    omega
  have hb : z.length * n.toNat ≤ 1000 * 1000 := Nat.mul_le_mul h5 (by omega)
  refine PySem.P.mul_str (by rw [decide_eq_false (show ¬ n < -(2 ^ 63) by omega), decide_eq_false (show ¬ n ≥ 2 ^ 63 by omega)]; rfl) (fun _ _ => ?_) (fun _ _ => ?_) ?_
  · have hm : (z.length : Int) * n ≤ 1000 * 1000 := Int.mul_le_mul (by omega) (by omega) (by omega) (by decide)
    have := Int.le_ediv_of_mul_le (show 0 < n by omega) (show (z.length : Int) * n ≤ 2 ^ 63 - 1 by omega)
    omega
  · unfold Builtin.Str.tooLong
    exact decide_eq_false (by rw [sizeLine_eq]; omega)
  · rw [if_neg hn, if_neg hc]
    refine ⟨?_, .str (repS z n.toNat), H, I.tok _, ⟨_, rfl⟩, q⟩
    show (repS z n.toNat).length ≤ sizeLine
    rw [len_rep, sizeLine_eq, Nat.mul_comm]
    omega
end KG

/-! small things that the laws' own bodies share -/
namespace KG
open PySem PySem.Spec PyProof.Rows L2
theorem same_but {p : Addr} {H H1 H2 : Hp} (s : Same H H1) (b : But p H1 H2) (n : H p = none) : Same H H2 := fun c o e => b c o (fun z => by rw [z, n] at e; cases e) (s c o e)
theorem seqO {K : PySem.W.Frag} {p a : Addr} {H H1 : Hp} {xs : List V} (h : SqL K H a xs) (n : H p = none) (s : Same H H1) : SqO K H1 p a xs := fun o => Same.seq (same_put s n) h
theorem cut_one (xs : List V) : (cutV xs none (some 1)).length ≤ 1 := by
  unfold cutV
  rw [HT.sIx_none, List.length_take, show HT.sIx xs.length xs.length (some 1) = min 1 xs.length from HT.sIx_nat _ _ 1]
  omega
theorem ne_lists {K : PySem.W.Frag} {H : Hp} {a b : Addr} {r q : List Int} {Q : VK} (h1 : SqL K H a (r.map V.int)) (h2 : SqL K H b (q.map V.int)) (k : Q (.bl (!decide (r = q))) H) : rNeD K (.ref a) (.ref b) H Q :=
  ⟨_, _, .lst h1 (dp_all r), .lst h2 (dp_all q), shaped_l r, shaped_l q, by rw [eqv_l]; exact k⟩
theorem small_new {ss : List Stp} {m : Int} {s : Stp} (h : SNew ss m s) (hm : m < 2 ^ 1000) (hl : ss.length ≤ 100000) : ∀ n ∈ s.ns, n.natAbs.log2 < 1920 := by
  have lg : ∀ n : Int, n.natAbs < 2 ^ 1000 → n.natAbs.log2 < 1920 := fun n h => log_small (n := 1000) h (by decide) (by decide)
  have big : (100000 : Nat) < 2 ^ 1000 := by decide +kernel
  have hm' : ∀ n : Int, -m ≤ n → n ≤ m → n.natAbs < 2 ^ 1000 := fun n a b => by
    have e : ((2 ^ 1000 : Nat) : Int) = (2 : Int) ^ 1000 := by decide +kernel
    have h3 : (n.natAbs : Int) ≤ m := by omega
    have h4 : (n.natAbs : Int) < ((2 ^ 1000 : Nat) : Int) := by rw [e]; exact Int.lt_of_le_of_lt h3 hm
    exact Int.ofNat_lt.mp h4
  have nm : ∀ b i, Nm1 ss b i → i.natAbs < 2 ^ 1000 := fun b i ⟨h0, s, hs, _⟩ => by
    have := (List.getElem?_eq_some_iff.mp hs).1
    exact Nat.lt_of_lt_of_le (show i.natAbs < 100001 by omega) big
  rcases h with ⟨x, y, rfl, a, b, c, d⟩ | ⟨i, j, rfl, a, b⟩ | ⟨i, j, k, rfl, a, b, c⟩ | ⟨i, j, w, rfl, a, b, c, d⟩
  · intro n hn
    rcases List.mem_cons.mp hn with rfl | hn
    · exact lg _ (hm' _ a b)
    · rw [List.mem_singleton.mp hn]; exact lg _ (hm' _ c d)
  · intro n hn
    rcases List.mem_cons.mp hn with rfl | hn
    · exact lg _ (nm _ _ a)
    · rw [List.mem_singleton.mp hn]; exact lg _ (nm _ _ b)
  · intro n hn
    rcases List.mem_cons.mp hn with rfl | hn
    · exact lg _ (nm _ _ a)
    rcases List.mem_cons.mp hn with rfl | hn
    · exact lg _ (nm _ _ b)
    · rw [List.mem_singleton.mp hn]; exact lg _ (nm _ _ c)
  · intro n hn
    rcases List.mem_cons.mp hn with rfl | hn
    · exact lg _ (nm _ _ a)
    rcases List.mem_cons.mp hn with rfl | hn
    · exact lg _ (nm _ _ b)
    · rw [List.mem_singleton.mp hn]; exact lg _ (Nat.lt_of_lt_of_le (show w.natAbs < 100001 by omega) big)
/-- a def that may raise, asked where it doesn't -/
theorem quiet {P : Program} {w : World} {K : PySem.W.Frag} {mg : Str → Option Value} {base : Heap} {k : Nat} {f : Addr} {fd : FuncData} {ps : List Str} {sp : Sp} (F : FnOk P w K mg base (L2.CX P w) k f fd ps sp) : FnOk P w K mg base CX0 k f fd ps (fun vs H Q _ => sp vs H Q fun _ _ _ => False) :=
  ⟨fun vs H Q E q => F.len _ _ _ _ q, fun A outer s H args us vs Q E hr he hb hv hs => codeAny_mono (F.run A outer s H args us vs Q _ hr he hb hv hs) fun r s2 h => by
    match r, h with
    | .ok (.ret u), h => exact h
    | .ok .next, h => exact False.elim h
    | .ok .brk, h => exact False.elim h
    | .ok .cont, h => exact False.elim h
    | .error e, h =>
      obtain ⟨_, _, _, _, _, _, _, _, _, _, _, _, h⟩ := h
      exact False.elim h⟩
end KG

/-! pieces of lists of texts -/
namespace KG
open PySem PySem.Spec PyProof.Rows L2
def cutG {α : Type} (xs : List α) (lo hi : Option Int) : List α := (xs.drop (HT.sIx xs.length 0 lo)).take (HT.sIx xs.length xs.length hi - HT.sIx xs.length 0 lo)
theorem cutG_mem {α : Type} {ls : List α} {lo hi : Option Int} {x : α} (h : x ∈ cutG ls lo hi) : x ∈ ls := List.mem_of_mem_drop (List.mem_of_mem_take h)
theorem cut_map (ls : List Str) (lo hi : Option Int) : cutV (ls.map V.str) lo hi = (cutG ls lo hi).map V.str := by
  unfold cutV cutG
  rw [List.length_map, List.map_take, List.map_drop]
theorem cutG_len {α : Type} (ls : List α) (lo hi : Option Int) : (cutG ls lo hi).length ≤ ls.length := by
  unfold cutG
  rw [List.length_take, List.length_drop]
  omega
theorem cut_to_nat {α : Type} (ws : List α) {d : Int} (h0 : 0 ≤ d) (h1 : d ≤ ws.length) : cutG ws none (some d) = ws.take d.toNat := by
  obtain ⟨n, rfl⟩ := Int.eq_ofNat_of_zero_le h0
  unfold cutG
  rw [HT.sIx_none, HT.sIx_nat, Nat.min_eq_left (by omega), List.drop_zero, Nat.sub_zero]; rfl
theorem cut_from_nat {α : Type} (ws : List α) {d : Int} (h0 : 0 ≤ d) : cutG ws (some d) none = ws.drop d.toNat := by
  obtain ⟨n, rfl⟩ := Int.eq_ofNat_of_zero_le h0
  unfold cutG
  rw [HT.sIx_none, HT.sIx_nat]
  show (ws.drop (min n ws.length)).take (ws.length - min n ws.length) = ws.drop n
  by_cases h : n ≤ ws.length
  · rw [Nat.min_eq_left h, List.take_of_length_le (by rw [List.length_drop]; exact Nat.le_refl _)]
  · rw [Nat.min_eq_right (by omega), Nat.sub_self, List.take_zero, List.drop_eq_nil_of_le (by omega)]
end KG

/-! formulas, their words, and how words are read -/
namespace KG
open PySem PySem.Spec PyProof.Rows L2
inductive Fm
  | num (n : Int)
  | one (w : Str) (f : Fm)
  | two (w : Str) (f g : Fm)
def Fm.ws : Fm → List Str
  | .num n => [numS n]
  | .one w f => w :: f.ws
  | .two w f g => w :: (f.ws ++ g.ws)
def Fm.ht : Fm → Nat
  | .num _ => 0
  | .one _ f => f.ht + 1
  | .two _ f g => max f.ht g.ht + 1
def ones : List Str := ["neg", "root"]
def twos : List Str := ["add", "sub", "mul", "div"]
def Fm.ok : Fm → Prop
  | .num n => n.natAbs < 10 ^ 30
  | .one w f => w ∈ ones ∧ f.ok
  | .two w f g => w ∈ twos ∧ f.ok ∧ g.ok
/-- the formula stands at t -/
inductive FAt (H : Hp) : Addr → Fm → Prop
  | num {t : Addr} {n : Int} : H t = some (.tup [.str "number", .int n]) → FAt H t (.num n)
  | one {t a : Addr} {w : Str} {f : Fm} : H t = some (.tup [.str w, .ref a]) → FAt H a f → FAt H t (.one w f)
  | two {t a b : Addr} {w : Str} {f g : Fm} : H t = some (.tup [.str w, .ref a, .ref b]) → FAt H a f → FAt H b g → FAt H t (.two w f g)
theorem FAt.mono {H H' : Hp} {t : Addr} {f : Fm} (h : FAt H t f) (k : ∀ t xs, H t = some (.tup xs) → H' t = some (.tup xs)) : FAt H' t f := by
  induction h with
  | num e => exact .num (k _ _ e)
  | one e _ ih => exact .one (k _ _ e) ih
  | two e _ _ ih1 ih2 => exact .two (k _ _ e) ih1 ih2
theorem FAt.same {H H' : Hp} {t : Addr} {f : Fm} (h : FAt H t f) (s : Same H H') : FAt H' t f := h.mono fun t xs e => s t _ e
theorem FAt.put {H : Hp} {t r : Addr} {f : Fm} {xs ys : List V} (h : FAt H t f) (e : H r = some (.lst xs)) : FAt (upd H r (.lst ys)) t f := h.mono fun t zs e2 => by
  rw [upd_ne (ne_of e2 e (by intro z; cases z))]; exact e2
theorem FAt.but {H H' : Hp} {t p a : Addr} {f : Fm} {ns : List Int} (h : FAt H t f) (X : StX H p a ns) (b : But p H H') : FAt H' t f := h.mono fun t xs e => b _ _ (fun z => by
  obtain ⟨_, _, _, _, e2, _⟩ := X
  rw [z, e2] at e; cases e) e
/-- several of them, in a list -/
inductive FsAt (H : Hp) : List V → List Fm → Prop
  | nil : FsAt H [] []
  | cons {t : Addr} {f : Fm} {us : List V} {fs : List Fm} : FAt H t f → FsAt H us fs → FsAt H (.ref t :: us) (f :: fs)
theorem FsAt.mono {H H' : Hp} {us : List V} {fs : List Fm} (h : FsAt H us fs) (k : ∀ t xs, H t = some (.tup xs) → H' t = some (.tup xs)) : FsAt H' us fs := by
  induction h with
  | nil => exact .nil
  | cons e _ ih => exact .cons (e.mono k) ih
theorem FsAt.same {H H' : Hp} {us : List V} {fs : List Fm} (h : FsAt H us fs) (s : Same H H') : FsAt H' us fs := h.mono fun t xs e => s t _ e
theorem FsAt.put {H : Hp} {r : Addr} {us : List V} {fs : List Fm} {xs ys : List V} (h : FsAt H us fs) (e : H r = some (.lst xs)) : FsAt (upd H r (.lst ys)) us fs := h.mono fun t zs e2 => by
  rw [upd_ne (ne_of e2 e (by intro z; cases z))]; exact e2
theorem FsAt.len {H : Hp} {us : List V} {fs : List Fm} (h : FsAt H us fs) : us.length = fs.length := by
  induction h with
  | nil => rfl
  | cons _ _ ih => rw [List.length_cons, List.length_cons, ih]
theorem FsAt.snoc {H : Hp} {us : List V} {fs : List Fm} (h : FsAt H us fs) {t : Addr} {f : Fm} (e : FAt H t f) : FsAt H (us ++ [.ref t]) (fs ++ [f]) := by
  induction h with
  | nil => exact .cons e .nil
  | cons e1 _ ih => exact .cons e1 ih
theorem FsAt.last {H : Hp} : ∀ {us : List V} {fs : List Fm}, FsAt H us fs → fs ≠ [] → ∃ us' t fs' f, us = us' ++ [.ref t] ∧ fs = fs' ++ [f] ∧ FAt H t f ∧ FsAt H us' fs'
  | _, _, .nil, h => absurd rfl h
  | _, _, .cons (t := t) (f := f) (us := us) (fs := fs) e r, _ => by
    cases r with
    | nil => exact ⟨[], t, [], f, rfl, rfl, e, .nil⟩
    | cons e2 r2 =>
      obtain ⟨us', t', fs', f', h1, h2, h3, h4⟩ := FsAt.last (.cons e2 r2) (List.cons_ne_nil _ _)
      exact ⟨.ref t :: us', t', f :: fs', f', by rw [h1]; rfl, by rw [h2]; rfl, h3, .cons e h4⟩
/-! how many formulas stand in a formula with this word -/
def partsD : List (Str × Int) := [("add", 2), ("sub", 2), ("mul", 2), ("div", 2), ("neg", 1), ("root", 1)]
def pn (y : Str) : Nat := if y ∈ twos then 2 else if y ∈ ones then 1 else 0
theorem kd_parts (y : Str) : kdOr partsD y (.int 0) = .int (pn y : Int) := by
  by_cases h1 : y = "add"
  · subst h1; decide +kernel
  by_cases h2 : y = "sub"
  · subst h2; decide +kernel
  by_cases h3 : y = "mul"
  · subst h3; decide +kernel
  by_cases h4 : y = "div"
  · subst h4; decide +kernel
  by_cases h5 : y = "neg"
  · subst h5; decide +kernel
  by_cases h6 : y = "root"
  · subst h6; decide +kernel
  have ne : ∀ k : Str, y ≠ k → (y == k) = false := fun k h => by rw [beq_eq_false_iff_ne]; exact h
  have e : partsD.lookup y = none := by
    unfold partsD
    rw [List.lookup_cons, ne _ h1, List.lookup_cons, ne _ h2, List.lookup_cons, ne _ h3, List.lookup_cons, ne _ h4, List.lookup_cons, ne _ h5, List.lookup_cons, ne _ h6]; rfl
  have t : y ∉ twos := by simp [twos, h1, h2, h3, h4]
  have o : y ∉ ones := by simp [ones, h5, h6]
  unfold kdOr pn
  rw [e, if_neg t, if_neg o]; rfl
theorem pn_le (y : Str) : pn y ≤ 2 := by unfold pn; split <;> (try split) <;> decide
theorem pn_two {y : Str} (h : pn y = 2) : y ∈ twos := by
  unfold pn at h
  split at h
  · assumption
  · split at h <;> cases h
theorem pn_one {y : Str} (h : pn y = 1) : y ∈ ones := by
  unfold pn at h
  split at h
  · cases h
  · split at h
    · assumption
    · cases h
theorem two_pn {y : Str} (h : y ∈ twos) : pn y = 2 := by unfold pn; rw [if_pos h]
theorem one_pn {y : Str} (h : y ∈ ones) : pn y = 1 := by
  have : y ∉ twos := by
    intro k
    have e : ∀ z ∈ ones, z ∉ twos := by decide +kernel
    exact e y h k
  unfold pn; rw [if_neg this, if_pos h]
/-- the place of the first word that cannot stand; m formulas are due -/
def flt : Nat → Nat → List Str → Option Nat
  | at_, m, [] => if 0 < m then some at_ else none
  | at_, m, w :: r => if m = 0 ∨ (pn w = 0 ∧ isWhole w = false) then some at_ else flt (at_ + 1) (m + pn w - 1) r
def faultF (ws : List Str) : Option Nat := flt 0 1 ws
/-- how many formulas are due ahead of the j-th word -/
def mis : Nat → List Str → Nat → Nat
  | m, _, 0 => m
  | m, [], _ + 1 => m
  | m, w :: r, j + 1 => mis (m + pn w - 1) r j
theorem flt_none : ∀ (ws : List Str) (at_ m : Nat), flt at_ m ws = none → mis m ws ws.length = 0 ∧ ∀ j (h : j < ws.length), 1 ≤ mis m ws j ∧ (pn ws[j] = 0 → isWhole ws[j] = true) ∧ mis m ws (j + 1) = mis m ws j + pn ws[j] - 1
  | [], at_, m, h => by
    refine ⟨?_, fun j hj => absurd hj (Nat.not_lt_zero j)⟩
    unfold flt at h
    split at h
    · cases h
    · show m = 0
      omega
  | w :: r, at_, m, h => by
    unfold flt at h
    split at h
    · cases h
    · rename_i hn
      obtain ⟨h1, h2⟩ := flt_none r (at_ + 1) (m + pn w - 1) h
      refine ⟨h1, fun j hj => ?_⟩
      cases j with
      | zero =>
        refine ⟨?_, fun e => ?_, ?_⟩
        · show 1 ≤ m
          have : ¬ m = 0 := fun z => hn (.inl z)
          omega
        · show isWhole w = true
          cases q : isWhole w with
          | true => rfl
          | false => exact absurd (Or.inr ⟨e, q⟩) hn
        · cases r <;> rfl
      | succ j =>
        have hj : j < r.length := by rw [List.length_cons] at hj; omega
        exact h2 j hj
theorem flt_some_le : ∀ (ws : List Str) (at_ m k : Nat), flt at_ m ws = some k → k ≤ at_ + ws.length
  | [], at_, m, k, h => by
    unfold flt at h
    split at h
    · rw [← Option.some.inj h]; exact Nat.le_refl _
    · cases h
  | w :: r, at_, m, k, h => by
    unfold flt at h
    split at h
    · rw [← Option.some.inj h]; exact Nat.le_add_right _ _
    · have := flt_some_le r _ _ k h
      rw [List.length_cons]; omega
/-- the words of formulas, the last one first -/
def backW (fs : List Fm) : List Str := fs.reverse.flatMap Fm.ws
theorem backW_snoc (fs : List Fm) (f : Fm) : backW (fs ++ [f]) = f.ws ++ backW fs := by unfold backW; rw [List.reverse_append, List.reverse_singleton, List.singleton_append, List.flatMap_cons]
theorem ws_ne : ∀ f : Fm, f.ws ≠ []
  | .num _ => List.cons_ne_nil _ _
  | .one _ _ => List.cons_ne_nil _ _
  | .two _ _ _ => List.cons_ne_nil _ _
theorem ht_lt : ∀ f : Fm, f.ht < f.ws.length
  | .num _ => by show 0 < 1; decide
  | .one w f => by
    have := ht_lt f
    show f.ht + 1 < f.ws.length + 1
    omega
  | .two w f g => by
    have := ht_lt f
    have := ht_lt g
    show max f.ht g.ht + 1 < (f.ws ++ g.ws).length + 1
    rw [List.length_append]; omega
/-- whole words that are read by int have no fault -/
theorem flt_ok : ∀ (f : Fm) (at_ m : Nat) (r : List Str), f.ok → flt at_ (m + 1) (f.ws ++ r) = flt (at_ + f.ws.length) m r
  | .num n, at_, m, r, h => by
    have hw := whole_num h
    have h0 : ¬ (m + 1 = 0 ∨ (pn (numS n) = 0 ∧ isWhole (numS n) = false)) := by rw [hw]; simp
    have hp : pn (numS n) = 0 := by
      have e : ∀ z ∈ twos ++ ones, isWhole z = false := by decide +kernel
      unfold pn
      have n2 : numS n ∉ twos := fun z => by
        have q := e _ (List.mem_append_left _ z)
        rw [hw] at q; cases q
      have n1 : numS n ∉ ones := fun z => by
        have q := e _ (List.mem_append_right _ z)
        rw [hw] at q; cases q
      rw [if_neg n2, if_neg n1]
    show (if _ then _ else flt (at_ + 1) (m + 1 + pn (numS n) - 1) r) = flt (at_ + 1) m r
    rw [if_neg h0, hp]; rfl
  | .one w f, at_, m, r, h => by
    have hp := one_pn h.1
    have h0 : ¬ (m + 1 = 0 ∨ (pn w = 0 ∧ isWhole w = false)) := by rw [hp]; simp
    show (if _ then _ else flt (at_ + 1) (m + 1 + pn w - 1) (f.ws ++ r)) = flt (at_ + (f.ws.length + 1)) m r
    rw [if_neg h0, hp, show m + 1 + 1 - 1 = m + 1 by omega, flt_ok f (at_ + 1) m r h.2, show at_ + 1 + f.ws.length = at_ + (f.ws.length + 1) by omega]
  | .two w f g, at_, m, r, h => by
    have hp := two_pn h.1
    have h0 : ¬ (m + 1 = 0 ∨ (pn w = 0 ∧ isWhole w = false)) := by rw [hp]; simp
    show (if _ then _ else flt (at_ + 1) (m + 1 + pn w - 1) (f.ws ++ g.ws ++ r)) = flt (at_ + ((f.ws ++ g.ws).length + 1)) m r
    rw [if_neg h0, hp, List.append_assoc, show m + 1 + 2 - 1 = (m + 1) + 1 by omega, flt_ok f (at_ + 1) (m + 1) _ h.2.1, flt_ok g _ m r h.2.2, List.length_append]
    congr 1; omega
theorem fault_ok {f : Fm} (h : f.ok) : faultF f.ws = none := by
  have := flt_ok f 0 0 [] h
  rw [List.append_nil] at this
  unfold faultF
  rw [this]; rfl
/-- two formulas with the same words are one -/
theorem ws_inj : ∀ (f g : Fm) (r q : List Str), f.ok → g.ok → f.ws ++ r = g.ws ++ q → f = g ∧ r = q
  | .num m, .num n, r, q, _, _, e => by
    obtain ⟨e1, e2⟩ := List.cons.inj e
    rw [numS_inj e1]; exact ⟨rfl, e2⟩
  | .num m, .one w g, r, q, h, k, e => by
    have e1 := (List.cons.inj e).1
    have a := whole_num h
    have b : ∀ z ∈ ones, isWhole z = false := by decide +kernel
    rw [e1, b w k.1] at a; cases a
  | .num m, .two w g1 g2, r, q, h, k, e => by
    have e1 := (List.cons.inj e).1
    have a := whole_num h
    have b : ∀ z ∈ twos, isWhole z = false := by decide +kernel
    rw [e1, b w k.1] at a; cases a
  | .one w f, .num n, r, q, h, k, e => by
    have e1 := (List.cons.inj e).1
    have a := whole_num k
    have b : ∀ z ∈ ones, isWhole z = false := by decide +kernel
    rw [← e1, b w h.1] at a; cases a
  | .two w f1 f2, .num n, r, q, h, k, e => by
    have e1 := (List.cons.inj e).1
    have a := whole_num k
    have b : ∀ z ∈ twos, isWhole z = false := by decide +kernel
    rw [← e1, b w h.1] at a; cases a
  | .one w f, .one v g, r, q, h, k, e => by
    obtain ⟨e1, e2⟩ := List.cons.inj e
    obtain ⟨e3, e4⟩ := ws_inj f g r q h.2 k.2 e2
    rw [show w = v from e1, e3]; exact ⟨rfl, e4⟩
  | .one w f, .two v g1 g2, r, q, h, k, e => by
    have e1 : w = v := (List.cons.inj e).1
    have a := one_pn h.1
    rw [e1, two_pn k.1] at a; cases a
  | .two w f1 f2, .one v g, r, q, h, k, e => by
    have e1 : w = v := (List.cons.inj e).1
    have a := two_pn h.1
    rw [e1, one_pn k.1] at a; cases a
  | .two w f1 f2, .two v g1 g2, r, q, h, k, e => by
    obtain ⟨e1, e2⟩ := List.cons.inj e
    have e2 : f1.ws ++ f2.ws ++ r = g1.ws ++ g2.ws ++ q := e2
    rw [List.append_assoc, List.append_assoc] at e2
    obtain ⟨e3, e4⟩ := ws_inj f1 g1 _ _ h.2.1 k.2.1 e2
    obtain ⟨e5, e6⟩ := ws_inj f2 g2 _ _ h.2.2 k.2.2 e4
    rw [show w = v from e1, e3, e5]; exact ⟨rfl, e6⟩
/-- a word of a formula has no blank and no newline -/
theorem num_plain {n : Int} {c : Nat} (h : c = 10 ∨ c = 32) : c ∉ TL.tl (numS n) := by
  rw [tl_numS]
  unfold signs
  have hl : c ∉ TL.numL n.natAbs := TL.numL_free (.inl (by omega))
  split
  · intro hm
    rcases List.mem_cons.mp hm with e | e
    · omega
    · exact hl e
  · exact hl
theorem ws_plain : ∀ f : Fm, f.ok → ∀ w ∈ f.ws, 32 ∉ TL.tl w ∧ w.length ≤ 31
  | .num n, h, w, hw => by
    rw [List.mem_singleton.mp hw]
    obtain ⟨_, _, _, _, h4⟩ := canon_read (whole_num h)
    exact ⟨num_plain (.inr rfl), h4⟩
  | .one v f, h, w, hw => by
    rcases List.mem_cons.mp hw with e | e
    · have b : ∀ z ∈ ones, 32 ∉ TL.tl z ∧ z.length ≤ 31 := by decide +kernel
      rw [e]; exact b v h.1
    · exact ws_plain f h.2 w e
  | .two v f g, h, w, hw => by
    rcases List.mem_cons.mp hw with e | e
    · have b : ∀ z ∈ twos, 32 ∉ TL.tl z ∧ z.length ≤ 31 := by decide +kernel
      rw [e]; exact b v h.1
    · rcases List.mem_append.mp e with e | e
      · exact ws_plain f h.2.1 w e
      · exact ws_plain g h.2.2 w e
end KG

/-! t[:0:-1] of a tuple of two or three; list.extend(tuple) -/
namespace KG
open PySem PySem.Spec PyProof.Rows L2
theorem extend_tup (l : Addr) (items : Array Value) (n : Nat) (b : Addr) (items2 : Array Value) (n2 : Nat) (dd : Option Addr) (sl : Array (Option Value)) (hs0 : ¬(!items.isEmpty && Builtin.List.listTooLong (items.size + items2.size)) = true) (hs1 : items.size ≤ sizeLine) (hs2 : items.size + items2.size ≤ sizeLine + 1) :
    Meets (Builtin.«list.extend» ⟨[.ref l, .ref b], []⟩) (fun _ R s => (s.heap.get? l = some { cls := .type "list", dict := none, data := .seq items n, slots := #[] } ∧ s.heap.get? b = some { cls := .type "tuple", dict := dd, data := .seq items2 n2, slots := sl }) ∧ R (.ok (.ret Value.none)) { s with heap := s.heap.update l (Obj.mapSeq fun x => x ++ items2), toks := s.toks }) :=
  .of_wp fun prog w A R s h => by
    obtain ⟨hp, g, d, tk, os⟩ := s
    obtain ⟨⟨hl, hb⟩, h⟩ := h
    have g1 := AutoSeq1.idx_int
    have g2 := AutoSeq1.sub_tuple_tuple
    have g3 := AutoSeq1.sub_list_list
    have g4 := AutoSeq1.sub_tuple_list
    have g5 := AutoSeq1.sub_list_tuple
    have hz' : (items ++ items2).size ≤ sizeLine + 1 := by rw [Array.size_append]; exact hs2
    wp_walk using (wpAny_updateSeq hl rfl (hz := hs1) (_hz' := hz')), AutoSeq1.wpAny_loadPart' hl, AutoSeq1.wpAny_loadPart' hb
    exact ⟨_, rfl, h⟩
def rExtT (K : PySem.W.Frag) : V → List V → Hp → VK → Prop := fun x vs H Q => ∃ l b xs zs, x = .ref l ∧ vs = [.ref b] ∧ H l = some (.lst xs) ∧ SqT K H b zs ∧ xs.length + zs.length ≤ sizeLine ∧ Q .non (upd H l (.lst (xs ++ zs)))
theorem mt_extT {X : Cx} : MtR X "list.extend" (rExtT X.K) := by
  intro pins s σ H x vs v us Q I rx rv h
  obtain ⟨l, b, xs, zs, rfl, rfl, hH, hB, hz, q⟩ := h
  cases rx
  obtain ⟨u, rfl, ru⟩ := rv.one
  cases ru
  obtain ⟨z, its, n, r, hl, e⟩ := I.lstM hH
  obtain ⟨its2, r2, ⟨o2, e2, hc2, n2, hd2⟩, _⟩ := I.tuple hB
  obtain ⟨c2, dd, dt, sl⟩ := o2
  obtain rfl : c2 = .type "tuple" := hc2
  obtain rfl : dt = .seq its2.toArray n2 := hd2
  have hl2 := r2.length
  have hsz : its.toArray.size + its2.toArray.size ≤ sizeLine := by rw [List.size_toArray, List.size_toArray]; omega
  have hlong : ¬ (!its.toArray.isEmpty && Builtin.List.listTooLong (its.toArray.size + its2.toArray.size)) = true := by
    rw [notLongL hsz, Bool.and_false]
    exact Bool.false_ne_true
  refine call_meets F.slot_list_extend ⟨_, e, rfl⟩ F.entry_list_extend (F.args_list_extend_2 _ _) (extend_tup l its.toArray n b its2.toArray n2 dd sl hlong (by rw [List.size_toArray]; omega) (by omega)) ⟨⟨e, e2⟩, ?_⟩
  refine ⟨.non, _, I.lset (its' := its ++ its2) hH e (by simp) (r.append r2) ?_, rfl, q⟩
  rw [List.length_append]
  omega
section
variable {prog : Program} {w : World} {A : Around} {E : Value → Shared → Prop} {s : Shared}
theorem applied_back {sl : Addr} {vu vs vl : Value} {n m : Nat} {L R : Int} {Q : Int × Int × Nat → Shared → Prop} (hs : s.heap.IsSliceOf sl vl vu vs) (pl : IsPart vl none) (pu : IsPart vu (some 0)) (ps : IsPart vs (some (-1)))
    (e1 : Builtin.Slice.sliceAdjust none (some 0) (-1) (n : Int) = (L, R)) (e2 : Builtin.Slice.slicePlaces L R (-1) = m) (h : Q (L, -1, m) s) : wpAny (model prog w) A (Builtin.Slice.sliceApplied (.ref sl) (pure (n : Int))) Q E s := by
  obtain ⟨os, hos, hcs, hds⟩ := id hs
  unfold Builtin.Slice.sliceApplied Builtin.Slice.sliceFields
  refine wpAny_bind (wpAny_bind (wpAny_field hos hds (x := vl) rfl (wpAny_bind (wpAny_field hos hds (x := vu) rfl (wpAny_bind (wpAny_field hos hds (x := vs) rfl (wpAny_pure ?_)))))))
  refine wpAny_bind (HT.slicePart_ ps ?_)
  show wpAny _ _ (if ((-1 : Int) == 0) = true then _ else _) _ _ s
  rw [if_neg (by decide)]
  refine wpAny_bind (HT.slicePart_ pl (wpAny_bind (HT.slicePart_ pu (wpAny_bind (wpAny_pure ?_)))))
  show wpAny _ _ (match Builtin.Slice.sliceAdjust none (some 0) (-1) (n : Int) with | (lo, hi) => pure (lo, (-1 : Int), Builtin.Slice.slicePlaces lo hi (-1))) _ _ s
  rw [e1]
  show wpAny _ _ (pure (L, (-1 : Int), Builtin.Slice.slicePlaces L R (-1))) _ _ s
  rw [e2]
  exact wpAny_pure h
theorem item_back {t sl : Addr} {items res : Array Value} {vu vs vl : Value} {m : Nat} {L R : Int} {Q : Value → Shared → Prop} (ht : IsTup s.heap t items) (hs : s.heap.IsSliceOf sl vl vu vs) (pl : IsPart vl none) (pu : IsPart vu (some 0)) (ps : IsPart vs (some (-1)))
    (e1 : Builtin.Slice.sliceAdjust none (some 0) (-1) (items.size : Int) = (L, R)) (e2 : Builtin.Slice.slicePlaces L R (-1) = m) (e3 : ((List.range m).filterMap fun (k : Nat) => items[(L + (k : Int) * (-1)).toNat]?).toArray = res) (hsz : res.size ≤ sizeLine)
    (h : Q (.ref s.heap.objs.size) { s with heap := s.heap.push { cls := .type "tuple", data := .seq res } }) : wpAny (model prog w) A (getItem (.ref t) (.ref sl)) Q E s := by
  obtain ⟨os, hos, hcs, hds⟩ := id hs
  have hTs : s.TypeIs (.ref sl) "slice" := ⟨os, hos, hcs⟩
  unfold getItem
  try with_reducible refine wpAny_holding ?_
  first | refine wpAny_bind (wpAny_pure ?_) | skip
  refine wpAny_bind (wpAny_sequenceKey ht.typeIs (by decide) ?_)
  refine wpAny_bind (wpAny_callSpecial?_slot (name := Str.ofString "__getitem__") ht.typeIs PyProof.Rows.slot_tuple_getitem (wpAny_call_entry PyProof.Rows.slot_tuple_getitem ht.typeIs entry_tuple_getitem ?_ (args_tuple_getitem _ _)))
  show wpAny _ _ (Builtin.Tuple.tupleItemsOf (.ref t) >>= _) _ _ s
  refine wpAny_bind (tupleItemsOf_ ht ?_)
  refine wpAny_bind (wpAny_typeOf hTs ?_)
  rw [if_pos (by decide)]
  refine wpAny_bind (applied_back hs pl pu ps e1 e2 ?_)
  have hno : ¬ ((L == 0 && (-1 : Int) == 1 && m == items.size) = true) := by
    intro q
    rw [Bool.and_eq_true, Bool.and_eq_true] at q
    exact absurd q.1.2 (by decide)
  show wpAny _ _ (if (L == 0 && (-1 : Int) == 1 && m == items.size) = true then _ else _) _ _ s
  rw [if_neg hno, e3]
  first
    | exact wpAny_bind (m := Builtin.Tuple.tupleExact _) (wpAny_newObj_type (wpAny_pure ⟨_, rfl, wpAny_pure h⟩) hsz)
    | exact wpAny_bind (m := Builtin.Tuple.tupleExact _) (wpAny_newObj_type (wpAny_bind (wpAny_pure (wpAny_pure ⟨_, rfl, wpAny_pure h⟩))) hsz)
    | exact wpAny_bind (wpAny_bind (m := Builtin.Tuple.tupleExact _) (wpAny_newObj_type (wpAny_pure (wpAny_pure ⟨_, rfl, wpAny_pure h⟩)) hsz))
    | exact wpAny_bind (wpAny_bind (m := Builtin.Tuple.tupleExact _) (wpAny_newObj_type (wpAny_pure ⟨_, rfl, wpAny_pure h⟩) hsz))
end
/-- what the one slice leaves of two or three items -/
inductive Back : List V → List V → Prop
  | two (x a : V) : Back [x, a] [a]
  | three (x a b : V) : Back [x, a, b] [b, a]
def tBack (K : PySem.W.Frag) (te : TE) : TE := fun σ H Q => te σ H fun x H1 => ∃ a xs ys, x = .ref a ∧ SqT K H1 a xs ∧ Back xs ys ∧ ∀ p, H1 p = none → Q (.ref p) (upd H1 p (.tup ys))
theorem pe_backT {X : Cx} {e : Expr} {te : TE} {k k0 : Nat} {p0 p1 p2 p3 pos : Pos} (he : PE X e te) : PE X (.Subscript e (.Slice none (some (.Constant (.int 0) k0 p0)) (some (.UnaryOp .USub (.Constant (.int 1) k p1) p2)) p3) pos) (tBack X.K te) := by
  constructor
  intro pins s σ H Q I h
  refine Subscript_ (thn (he.run pins s σ H _ I h) ?_)
  rintro v s1 ⟨x, H1, I1, r1, a, xs, ys, rfl, hx, hb, q⟩
  cases r1
  have hst : PO X (some (.UnaryOp .USub (.Constant (.int 1) k p1) p2)) (tPart (tUn (rU fun i => .int (-i)) (tC (.int 1)))) := po_some (pe_un un_neg pe_int)
  have hup : PO X (some (.Constant (.int 0) k0 p0)) (tPart (tC (.int 0))) := po_some pe_int
  refine wpAny_Slice (thn (po_none.run pins s1 σ H1 (fun o H2 => o = none ∧ H2 = H1) I1 ⟨rfl, rfl⟩) ?_)
  rintro vl s2 ⟨l, H2, I2, pl, rfl, rfl⟩
  refine thn (hup.run pins s2 σ H2 (fun o H3 => o = some 0 ∧ H3 = H2) I2 ⟨0, rfl, rfl, rfl⟩) ?_
  rintro vu s3 ⟨u, H3, I3, pu, rfl, rfl⟩
  refine thn (hst.run pins s3 σ H3 (fun o H4 => o = some (-1) ∧ H4 = H3) I3 ⟨1, rfl, -1, rfl, rfl, rfl⟩) ?_
  rintro vs s4 ⟨o, H4, I4, ps, rfl, rfl⟩
  have I5 : Inv X pins σ H4 { s4 with heap := s4.heap.push { cls := .type "slice", data := .fields #[vl, vu, vs] } } := I4.kept (t' := s4.toks) fun b ob q => Heap.get?_push_of_some _ q
  obtain ⟨its, r, ht, hz⟩ := I5.tuple hx
  show wpAny (model X.prog X.w) X.A (subscriptTail e (.Slice none (some (.Constant (.int 0) k0 p0)) (some (.UnaryOp .USub (.Constant (.int 1) k p1) p2)) p3) (.ref a) (.ref s4.heap.objs.size)) (EP X pins σ Q) X.xe { s4 with heap := s4.heap.push { cls := .type "slice", data := .fields #[vl, vu, vs] } }
  refine tail_any (ops := [.ref a, .ref s4.heap.objs.size]) ht.typeIs PyProof.Rows.slot_tuple_getitem.lookup ?_ (by with_unfolding_all rfl)
  cases hb with
  | two x0 a0 =>
    cases r with
    | cons rx rr => cases rr with
      | cons ra rr2 =>
        cases rr2
        refine item_back ht (Heap.IsSliceOf.new _ vl vu vs) pl pu ps (L := 1) (R := 0) (m := 1) rfl rfl rfl (by show 1 ≤ sizeLine; decide) ?_
        refine ⟨.ref _, _, I5.laid (t' := s4.toks) (o := .tup [a0]) (fun b ob q => Heap.get?_push_of_some _ q) (Nat.le_refl _) ?_, rfl, q _ (I5.hok.fresh (Nat.le_refl _))⟩
        exact ⟨by show 1 ≤ sizeLine; decide, _, .cons ra .nil, IsTup.new _ _⟩
  | three x0 a0 b0 =>
    cases r with
    | cons rx rr => cases rr with
      | cons ra rr2 => cases rr2 with
        | cons rb rr3 =>
          cases rr3
          refine item_back ht (Heap.IsSliceOf.new _ vl vu vs) pl pu ps (L := 2) (R := 0) (m := 2) rfl rfl rfl (by show 2 ≤ sizeLine; decide) ?_
          refine ⟨.ref _, _, I5.laid (t' := s4.toks) (o := .tup [b0, a0]) (fun b ob q => Heap.get?_push_of_some _ q) (Nat.le_refl _) ?_, rfl, q _ (I5.hok.fresh (Nat.le_refl _))⟩
          exact ⟨by show 2 ≤ sizeLine; decide, _, .cons rb (.cons ra .nil), IsTup.new _ _⟩
end KG

/-! repr of tuples and lists as data, where no text is being shown around (the law itself, as it is called from outside) -/
namespace KG
open PySem PySem.Spec PyProof.Rows L2
def rReprD (K : PySem.W.Frag) : List V → Hp → VK → Prop := fun xs H Q => ∃ (p : Addr) (d : PyData), xs = [.ref p] ∧ Dp K H (.ref p) d ∧ d.showable = true ∧ d.hasDict = false ∧ d.depth ≤ 60 ∧ d.shown.length ≤ sizeLine ∧ Q (.str d.shown) H
theorem call_reprD {X : Cx} (hg : X.A.guards = some []) (hu : X.A.units + 64 < cLine) : CallR X (.builtin "repr") (rReprD X.K) := by
  intro pins s σ H xs us Q I r h
  obtain ⟨p, d, rfl, hd, hs, hn, hdep, hz, q⟩ := h
  obtain ⟨u, rfl, ru⟩ := vals1 r
  obtain rfl : u = Value.ref p := ru
  obtain ⟨as, rd⟩ := Dp.reads I d _ _ hd rfl
  exact repr_of_reads' rd hs (PyData.noDict_hsm hn) hg (by omega) (fun _ _ e => e) (fun h' u tk hk => ⟨.str d.shown, H, I.kept (t' := tk) hk, ⟨_, rfl⟩, q⟩) hz
end KG

/-! a law that is walked where it is called from outside: nothing is being shown there, so repr of tuples may be asked in its own body -/
namespace KG
open PySem PySem.Spec PyProof.Rows L2
section
variable {P : Program} {w : World} {K : PySem.W.Frag} {mg : Str → Option Value}
/-- one call of a def in a known place -/
theorem fn_here {CX : CXT} {base : Heap} {k : Nat} {fn : Addr} {nm ql : Str} {prm : Arguments} {bdy : List Stmt} {sc : Scope} {d1 d2 d3 d4 cdv d5 oc : Value} {an od : Option Addr} {sl : Array (Option Value)} {N ps : List Str}
    {here : Around} {out : List Env} {s : Shared} {H : Hp} {Q : VK} {E : XK} {g : Args} {us : List Value} {vs : List V}
    (at_ : K.lookup fn = some ⟨oc, od, .func (PySem.W.fnOf nm ql prm bdy sc d1 d2 d3 d4 an cdv d5), sl⟩) (code : PySem.W.codeIn K cdv ql = true) (S : FnScope N ps sc) (room : Room (k + 1) here) (e0 : Env0 P w K mg base here out s H)
    (bind : BindsTo s (PySem.W.fnOf nm ql prm bdy sc d1 d2 d3 d4 an cdv d5) g (ps.zip us)) (rel : Vals vs us) (many : vs.length = ps.length)
    (walk : ∃ t, PSs (cxOf CX P w K mg base N ql sc fn cdv here out s H E) bdy t ∧ t { nx := fun _ H' => Q .non H', rt := Q } (start N vs) H) :
    codeAny (model P w) here (.call (.ref fn) g) (CR CX out P w H s Q E) s := by
  obtain ⟨t, hw, hq⟩ := walk
  have inK : K.In s.heap := e0.mod.kin.keeps fun b o z => (e0.bs b o z).1
  refine codeAny_call_function room.depth (inK _ _ at_) rfl S.co S.gen rfl (PySem.W.codeRec_of inK code) (bind _ _ _ _ (wpAny_newFunctionEnv_cells S.kind (fun y hy => ?_) fun env he s2 x => ?_))
  · rcases S.par y.1 (List.of_mem_zip (a := y.1) (b := y.2) hy).1 with z | z
    · exact .inl z
    · exact .inr ⟨z, PySem.W.cellsFrom_some _ _ _ (.inl z)⟩
  · subst he
    refine ⟨(e0.mod.nolimit.keeps fun b o z => (e0.bs b o z).1).keeps x.toInCall.keep, codeAny_func ?_⟩
    refine wpAny_mono (hw.run [] s2 (start N vs) H _ (inv_start S room.hd e0 many rel x) hq) (fun end_ s3 hs => ?_) fun _ _ z => z
    cases end_ with
    | ret u => exact let ⟨v, _, H', J, rv, q⟩ := hs; ⟨v, H', J.os, J.bare, J.base, J.hok, rv, q⟩
    | next => exact let ⟨_, H', J, q⟩ := hs; ⟨.non, H', J.os, J.bare, J.base, J.hok, rfl, q⟩
    | brk => exact let ⟨_, _, _, q⟩ := hs; False.elim (show False from q)
    | cont => exact let ⟨_, _, _, q⟩ := hs; False.elim (show False from q)
/-- the same, for a def of the text -/
theorem fun_here {base : Heap} {k : Nat} {x qual : Str} {st : Stmt} {f : Addr} {fd : FuncData} {N ps : List Str} {here : Around} {out : List Env} {s : Shared} {H : Hp} {Q : VK} {E : XK} {g : Args} {us : List Value} {vs : List V}
    (F : Fun K x qual st f fd) (S : FnScope N ps (defScope st)) (room : Room (k + 1) here) (e0 : Env0 P w K mg base here out s H) (bind : BindsTo s fd g (ps.zip us)) (rel : Vals vs us) (many : vs.length = ps.length)
    (walk : ∀ cdv : Value, Room k (here.deeper (envOfC qual (defScope st) s.heap.objs.size f cdv)) → ∃ t, PSs (cxOf CX0 P w K mg base N qual (defScope st) f cdv here out s H E).nox (defBody st) t ∧ t { nx := fun _ H' => Q .non H', rt := Q } (start N vs) H) :
    codeAny (model P w) here (.call (.ref f) g) (CR CX0 out P w H s Q E) s := by
  obtain ⟨oc, od, kV, doc, pm, an, cdv, ct, osl, rfl, lk, hcd⟩ := F.ex
  obtain ⟨t, h, q⟩ := walk cdv (room.deeper _)
  exact fn_here lk hcd S room e0 bind rel many ⟨t, h.nox, q⟩
/-- the law's own call, from a walk of it over any tracked heap in which at most the script stands -/
theorem law_here {mb : Str → Option Value} {fa a : Addr} {s1 : Shared} {vs : List Value} {ns : List Int} (inK : K.In s1.heap) (gl : s1.heap.Ns mainGlobals mg) (bn : s1.heap.Ns builtinsNs mb) (bb : ∀ x : Str, x ≠ "__name__" → mb x = bootBuiltins x) (lim : s1.heap.NoLimit) (ng : s1.gens = #[])
    (ob : s1.heap.get? a = some { cls := .type "list", data := .seq vs.toArray }) (it : IntsAre vs ns) (sz : ns.length ≤ sizeLine)
    (walk : ∀ (base : Heap) (H : Hp), K.In base → base.Ns mainGlobals mg → Env0 P w K mg base callerA [] s1 H → SqL K H a (ns.map V.int) → codeAny (model P w) callerA (.call (.ref fa) ⟨[.ref a], []⟩) (CR CX0 [] P w H s1 (fun v _ => v = .bl true) fun _ _ _ => False) s1) :
    codeAny (model P w) callerA (.call (.ref fa) ⟨[.ref a], []⟩) (fun r s2 => r = .ok (.ret (.bool true)) ∧ OldK s1.heap s2.heap ∧ s2.os = s1.os ∧ AllBare s2.gens) s1 := by
  obtain ⟨H, only, seq, laid, justA, notK⟩ : ∃ H : Hp, (∀ b u, H b = some u → b = a ∧ u = .frz { cls := .type "list", data := .seq vs.toArray } (.lst (ns.map V.int))) ∧ SqL K H a (ns.map V.int) ∧ HOk P w H s1.heap ∧ (∀ b, H b ≠ none → b = a) ∧ (H a ≠ none → K.lookup a = none) := by
    have rv := vals_ints it
    have ln := it.length
    cases hk : K.lookup a with
    | some o =>
      obtain rfl : o = { cls := .type "list", data := .seq vs.toArray } := by
        have z := (inK a o hk).symm.trans ob
        cases z; rfl
      exact ⟨fun _ => none, (fun b u z => nomatch z), .inr ⟨_, vs.toArray, _, hk, rfl, rfl, rfl, by rw [List.size_toArray, ln]; exact sz, by simpa using rv⟩, (fun b u z => nomatch z), fun b z => absurd rfl z, fun z => absurd rfl z⟩
    | none =>
      have self : ∀ b u, (upd (fun _ => none) a (.frz { cls := .type "list", data := .seq vs.toArray } (.lst (ns.map V.int))) : Hp) b = some u → b = a ∧ u = .frz { cls := .type "list", data := .seq vs.toArray } (.lst (ns.map V.int)) := fun b u z => by
        by_cases hb : b = a
        · subst hb; rw [upd_same] at z; exact ⟨rfl, (Option.some.inj z).symm⟩
        · rw [upd_ne hb] at z; cases z
      refine ⟨upd (fun _ => none) a (.frz { cls := .type "list", data := .seq vs.toArray } (.lst (ns.map V.int))), self, .inl (.inr ⟨_, upd_same⟩), fun b u z => ?_, fun b z => ?_, fun _ => rfl⟩
      · obtain ⟨rfl, rfl⟩ := self b u z
        exact ⟨ob, by rw [List.length_map]; exact sz, vs, _, rv, ob⟩
      · cases q : (upd (fun _ => none) a (.frz { cls := .type "list", data := .seq vs.toArray } (.lst (ns.map V.int))) : Hp) b with
        | none => exact absurd q z
        | some u => exact (self b u q).1
  -- what is not the script's is hidden from nobody
  have dicts : ∀ {b : Addr} {o : Obj} {es : Array DictEntry} {n : Nat}, s1.heap.get? b = some o → o.data = .dict es n → H b = none := fun {b o es n} z d => by
    cases q : H b with
    | none => rfl
    | some u =>
      obtain rfl := (only b u q).1
      rw [ob] at z
      cases z
      exact nomatch d
  have keepNs : ∀ {b : Addr} {m : Str → Option Value}, s1.heap.Ns b m → (hidT s1.heap H).Ns b m := fun {b m} z => by
    obtain ⟨o, es, n, z1, z2, z3⟩ := z
    exact ⟨o, es, n, hidT_get z1 (dicts z1 z2), z2, z3⟩
  have keepK : K.In (hidT s1.heap H) := fun b o z => hidT_get (inK b o z) (by
    cases q : H b with
    | none => rfl
    | some u =>
      obtain rfl := (only b u q).1
      have z2 := notK (by rw [q]; exact fun y => nomatch y)
      rw [z2] at z
      cases z)
  have lim2 : (hidT s1.heap H).NoLimit := by
    obtain ⟨mc, z1, z2⟩ := lim
    exact ⟨mc, keepNs z1, z2⟩
  have e0 : Env0 P w K mg (hidT s1.heap H) callerA [] s1 H :=
    { frames := rfl, mod := ⟨keepK, keepNs gl, ⟨mb, keepNs bn, bb⟩, lim2⟩, bs := fun b o z => of_hidT z, bsz := Nat.le_of_eq (hidT_size _ _), funs := trivial, frf := fun b z => absurd (show b ∈ ([] : List Addr) from z) List.not_mem_nil, hok := laid, bare := .of_eq ng }
  refine codeAny_mono (walk _ H keepK (keepNs gl) e0 seq) fun r s2 h => ?_
  match r, h with
  | .error e, h => exact False.elim h
  | .ok .next, h => exact False.elim h
  | .ok .brk, h => exact False.elim h
  | .ok .cont, h => exact False.elim h
  | .ok (.ret u), h =>
    obtain ⟨v, H2, z1, z2, z3, z4, z5, z6⟩ := h
    obtain rfl : v = .bl true := z6
    obtain rfl : u = Value.bool true := z5
    refine ⟨rfl, OldK.of_keep fun b o z => ?_, z1, z2⟩
    cases q : H b with
    | none => exact z3.keep b o z q (fun y => absurd (show b ∈ ([] : List Addr) from y) List.not_mem_nil) (fun y => absurd (show b ∈ ([] : List Addr) from y) List.not_mem_nil)
    | some u =>
      obtain ⟨rfl, rfl⟩ := only b u q
      have q2 := z3.frzs _ _ _ q
      have y1 := (laid _ _ q).1
      have y2 := (z4 _ _ q2).1
      rw [z] at y1
      cases y1
      exact y2
end
/-- the end: the law's row, from such walks -/
theorem walk_here {l : PySem.W.OpenLaw} {most : Nat} {txt : Program} {free : List Str} {d : DefRec} {YP : World → Heap → Prop} {XP : (Str → Option Value) → Heap → Prop} {K : Params → PySem.W.Frag}
    (hm : l.most = some most) (small : most ≤ sizeLine) (nodef : d.params.defaults = []) (inK : ∀ (w : World) (h : Heap), YP w h → (K w.params).In h)
    (walk : ∀ (w : World) (mg : Str → Option Value) (fa : Addr) (h : Heap), (K w.params).In h → h.Ns mainGlobals mg → mg d.name = some (.ref fa) → ∀ (s1 : Shared) (a : Addr) (ns : List Int), ns.length ≤ most → ∀ (base : Heap) (H : Hp), (K w.params).In base → base.Ns mainGlobals mg → Env0 l.prog w (K w.params) mg base callerA [] s1 H → SqL (K w.params) H a (ns.map V.int) →
      codeAny (model l.prog w) callerA (.call (.ref fa) ⟨[.ref a], []⟩) (CR CX0 [] l.prog w H s1 (fun v _ => v = .bl true) fun _ _ _ => False) s1) :
    PySem.W.WalkO txt free XP YP l.row.toRowW d [] (fun f vs => PySem.call f vs) :=
  Att.attach_call hm nodef fun w _ s1 mg _ fa _ _ _ _ a vs ns G Y _ _ _ hmg hobj hints hlen hg =>
    law_here (inK w _ Y) G.T.g G.T.b G.T.builtins G.T.nolimit hg hobj hints (Nat.le_trans hlen small) fun base H kb gb e0 sq => walk w mg fa _ (inK w _ Y) G.T.g hmg s1 a ns hlen base H kb gb e0 sq
end KG

namespace KL
open PySem PySem.Spec PyProof.Rows L2 KG
def topS (i : Nat) : Stmt := PySem.Challenge.pw_compasswork_k10_formula_texts.main.body.getD i (.Pass ⟨0, 0, 0, 0⟩)
/-- the built-in names stand as they are -/
structure Names (mg : Str → Option Value) : Prop where
  ValueError : mg "ValueError" = none
  int : mg "int" = none
  reversed : mg "reversed" = none
  enumerate : mg "enumerate" = none
  range : mg "range" = none
  len : mg "len" = none
  abs : mg "abs" = none
  repr : mg "repr" = none
  isinstance : mg "isinstance" = none
  str : mg "str" = none
  tuple : mg "tuple" = none
abbrev s_law_state : Stmt := topS 12
abbrev N_law_state : List Str := ["script", "mixed", "rest"]
theorem sc_law_state : FnScope N_law_state ["script"] (defScope s_law_state) := ⟨rfl, rfl, rfl, by decide +kernel, rfl, by decide +kernel, by decide +kernel⟩
abbrev s_law_take : Stmt := topS 13
abbrev N_law_take : List Str := ["state", "many", "cell", "drawn"]
theorem sc_law_take : FnScope N_law_take ["state", "many"] (defScope s_law_take) := ⟨rfl, rfl, rfl, by decide +kernel, rfl, by decide +kernel, by decide +kernel⟩
section
variable {P : Program} {w : World} {K : PySem.W.Frag} {mg : Str → Option Value} {base : Heap}
def sp_law_state (K : PySem.W.Frag) : Sp := fun vs H Q _ => ∃ (a : Addr) (ns : List Int), vs = [.ref a] ∧ SqL K H a (ns.map V.int) ∧ ns.length ≤ 63 ∧
  ∀ H' p, Same H H' → H p = none → StX H' p a ns → SqO K H' p a (ns.map V.int) → Q (.ref p) H'
theorem ok_law_state {f : Addr} {fd : FuncData} {k : Nat} (F : Fun K "_law_state" "_law_state" s_law_state f fd) (M : Names mg) : FnOk P w K mg base CX0 (k + 1) f fd ["script"] (sp_law_state K) := by
  refine F.ok sc_law_state (fun vs H Q E h => ?_) (fun cdv A outer s H vs Q E hr h => ?_)
  · obtain ⟨a, ns, rfl, _⟩ := h
    rfl
  obtain ⟨a, ns, rfl, hS, h63, q⟩ := h
  refine ⟨_, (pss_cons (ps_set (i := 1) sc_law_state.nd rfl (.inl rfl) pe_int)
    (pss_cons (ps_set (i := 2) sc_law_state.nd rfl (.inl rfl) pe_int)
    (pss_cons (ps_if (pt_cmpR op_gt (pe_callB call_len_seq (by rfl) M.len PySem.boot_len (pa_cons (pv 0) pa_nil)) pe_int (nomark _))
      (pss_cons (ps_set (i := 1) sc_law_state.nd rfl (.inl rfl) (pe_op op_mod (pe_callTy call_int1 (by rfl) M.int (by decide +kernel) (pa_cons (pe_ix ix_list (pv 0) pe_int (fun _ _ => rfl)) pa_nil)) pe_int))
      (pss_one (ps_set (i := 2) sc_law_state.nd rfl (.inl rfl) (pe_ix ix_list (pe_lst (pa_cons (pe_op op_fdiv (pe_callB call_abs (by rfl) M.abs (by decide +kernel) (pa_cons (pe_ix ix_list (pv 0) pe_int (fun _ _ => rfl)) pa_nil)) pe_int) (pa_cons pe_int pa_nil))) (pv 1) (fun _ _ => rfl)))))
      pss_nil)
    (pss_one (ps_ret (pe_lst (pa_cons (pv 0) (pa_cons (pv 2) (pa_cons pe_int (pa_cons (pv 1) (pa_cons (pe_lst pa_nil) (pa_cons pe_int (pa_cons pe_int (pa_cons pe_int pa_nil)))))))))))))), ?_⟩
  -- the end, once for both ways
  have fin : ∀ (r m : Int) (H1 : Hp), Same H H1 → StOk ns r 1 m → ∀ e, H1 e = none → ∀ p, (upd H1 e (.lst [])) p = none → Q (.ref p) (upd (upd H1 e (.lst [])) p (.lst (stL a e r 1 m))) := fun r m H1 sm ok e he p hp => by
    have s2 : Same H1 (upd H1 e (.lst [])) := same_new he _
    have s3 : Same (upd H1 e (.lst [])) (upd (upd H1 e (.lst [])) p (.lst (stL a e r 1 m))) := same_new hp _
    exact q _ p (sm.trans (s2.trans s3)) (sm.free (s2.free hp)) ⟨e, r, 1, m, upd_same, ok⟩ ((SqO.new (s2.seq (sm.seq hS)) hp).but (.put _ _))
  refine ⟨_, rfl, a, _, rfl, .inl hS, _, _, rfl, rfl, _, rfl, ite2 (fun c => ?_) (fun c => ?_)⟩
  · have hl : (ns.map V.int).length = ns.length := List.length_map _
    have hpos : 0 < ns.length := by
      have := of_decide_eq_true c
      rw [hl] at this; omega
    obtain ⟨v, hv⟩ := at_n (ns := ns) (i := 0) (by omega) (by omega)
    refine ⟨_, rfl, a, _, _, _, rfl, rfl, hS, hv, .inl ⟨_, rfl, ?_⟩⟩
    refine ⟨_, _, rfl, rfl, (by show (0 : Int) < 2; decide), ?_⟩
    refine ⟨_, rfl, a, _, _, _, rfl, rfl, hS, hv, _, rfl, _, _, rfl, rfl, ⟨by decide, by decide⟩, (by show 2 ≤ sizeLine; decide), fun t ht => ?_⟩
    have h2 : v % 2 = 0 ∨ v % 2 = 1 := by omega
    rcases h2 with h2 | h2
    · rw [show (fun i j => V.int (i % j)) v 2 = V.int 0 from congrArg V.int h2]
      refine ⟨_, rfl, t, _, 0, _, rfl, rfl, SqL.of upd_same, atI_nat (j := 0) rfl, ?_⟩
      refine ⟨_, rfl, _, rfl, _, rfl, Nat.zero_le _, fun e he => ⟨(by show 8 ≤ sizeLine; decide), fun p hp => ?_⟩⟩
      exact fin _ _ _ (same_new ht _) (.inr ⟨rfl, by split <;> omega, by decide⟩) e he p hp
    · rw [show (fun i j => V.int (i % j)) v 2 = V.int 1 from congrArg V.int h2]
      refine ⟨_, rfl, t, _, 1, _, rfl, rfl, SqL.of upd_same, atI_nat (j := 1) rfl, ?_⟩
      refine ⟨_, rfl, _, rfl, _, rfl, Nat.zero_le _, fun e he => ⟨(by show 8 ≤ sizeLine; decide), fun p hp => ?_⟩⟩
      exact fin _ _ _ (same_new ht _) (.inl ⟨rfl, hpos⟩) e he p hp
  · refine ⟨_, rfl, _, rfl, _, rfl, Nat.zero_le _, fun e he => ⟨(by show 8 ≤ sizeLine; decide), fun p hp => ?_⟩⟩
    exact fin _ _ _ (Same.refl _) (.inr ⟨rfl, by decide, by decide⟩) e he p hp
def sp_law_take (K : PySem.W.Frag) : Sp := fun vs H Q _ => ∃ (p a : Addr) (ns : List Int) (many : Int), vs = [.ref p, .int many] ∧ StX H p a ns ∧ SqO K H p a (ns.map V.int) ∧ 0 < many ∧ many.natAbs.log2 < 9000 ∧
  ∀ (d : Int) (H' : Hp), 0 ≤ d → d < many → StX H' p a ns → But p H H' → Q (.int d) H'
theorem ok_law_take {f : Addr} {fd : FuncData} {k : Nat} (F : Fun K "_law_take" "_law_take" s_law_take f fd) (M : Names mg) : FnOk P w K mg base CX0 (k + 1) f fd ["state", "many"] (sp_law_take K) := by
  refine F.ok sc_law_take (fun vs H Q E h => ?_) (fun cdv A outer s H vs Q E hr h => ?_)
  · obtain ⟨p, a, ns, many, rfl, _⟩ := h
    rfl
  obtain ⟨p, a, ns, many, rfl, ⟨e, r, c, m, hp, ok⟩, hS, h0, h9, q⟩ := h
  refine ⟨_, (pss_cons (ps_if (pt_cmpR op_eq (pe_ix ix_list (pv 0) pe_int (fun _ _ => rfl)) pe_int (nomark _))
      (pss_cons (ps_set (i := 2) sc_law_take.nd rfl (.inl rfl) (pe_ix ix_list (pe_ix ix_list (pv 0) pe_int (fun _ _ => rfl)) (pe_op op_mod (pe_callTy call_int1 (by rfl) M.int (by decide +kernel) (pa_cons (pe_ix ix_list (pv 0) pe_int (fun _ _ => rfl)) pa_nil)) (pe_callB call_len_seq (by rfl) M.len PySem.boot_len (pa_cons (pe_ix ix_list (pv 0) pe_int (fun _ _ => rfl)) pa_nil))) (fun _ _ => rfl)))
      (pss_cons (ps_asg (pe_op op_mod (pe_callTy call_int1 (by rfl) M.int (by decide +kernel) (pa_cons (pe_op op_add (pe_op op_add (pe_op op_add (pe_op op_mul (pe_ix ix_list (pv 0) pe_int (fun _ _ => rfl)) pe_int) (pe_op op_mul (pv 2) pe_int)) (pe_op op_mul (pe_ix ix_list (pv 0) pe_int (fun _ _ => rfl)) pe_int)) pe_int) pa_nil)) pe_int) (pg_sub (pv 0) pe_int set_list))
      (pss_cons (ps_asg (pe_op op_add (pe_ix ix_list (pv 0) pe_int (fun _ _ => rfl)) pe_int) (pg_sub (pv 0) pe_int set_list))
      (pss_one (ps_ret (pe_op op_mod (pe_op op_mod (pe_callTy call_int1 (by rfl) M.int (by decide +kernel) (pa_cons (pe_op op_add (pe_op op_mul (pe_ix ix_list (pv 0) pe_int (fun _ _ => rfl)) pe_int) pe_int) pa_nil)) pe_int) (pv 1)))))))
      pss_nil)
    (pss_cons (ps_if (pt_cmpR op_eq (pe_ix ix_list (pv 0) pe_int (fun _ _ => rfl)) pe_int (nomark _))
      (pss_cons (ps_if (pt_cmpR op_ge (pe_ix ix_list (pv 0) pe_int (fun _ _ => rfl)) (pe_callB call_len_seq (by rfl) M.len PySem.boot_len (pa_cons (pe_ix ix_list (pv 0) pe_int (fun _ _ => rfl)) pa_nil)) (nomark _))
        (pss_one (ps_ret pe_int))
        pss_nil)
      (pss_cons (ps_asg (pe_callB call_abs (by rfl) M.abs (by decide +kernel) (pa_cons (pe_ix ix_list (pe_ix ix_list (pv 0) pe_int (fun _ _ => rfl)) (pe_ix ix_list (pv 0) pe_int (fun _ _ => rfl)) (fun _ _ => rfl)) pa_nil)) (pg_sub (pv 0) pe_int set_list))
      (pss_one (ps_asg (pe_op op_add (pe_ix ix_list (pv 0) pe_int (fun _ _ => rfl)) pe_int) (pg_sub (pv 0) pe_int set_list)))))
      pss_nil)
    (pss_cons (ps_set (i := 3) sc_law_take.nd rfl (.inl rfl) (pe_op op_mod (pe_callTy call_int1 (by rfl) M.int (by decide +kernel) (pa_cons (pe_ix ix_list (pv 0) pe_int (fun _ _ => rfl)) pa_nil)) (pv 1)))
    (pss_cons (ps_asg (pe_op op_fdivW (pe_ix ix_list (pv 0) pe_int (fun _ _ => rfl)) (pv 1)) (pg_sub (pv 0) pe_int set_list))
    (pss_one (ps_ret (pv 3))))))), ?_⟩
  have hSn : SqL K H a (ns.map V.int) := hS.now hp
  have hl : (ns.map V.int).length = ns.length := List.length_map _
  refine ⟨_, rfl, p, _, 3, _, rfl, rfl, SqL.of hp, atI_nat (j := 3) rfl, rfl, _, rfl, ite2 (fun t1 => ?_) (fun t1 => ?_)⟩
  · -- mixed draws
    have m1 : m = 1 := V.int.inj (of_decide_eq_true t1)
    have npos : 0 < ns.length := by
      rcases ok with ⟨_, z⟩ | ⟨z, _⟩
      · exact z
      · omega
    obtain ⟨v, hv⟩ := at_n (ns := ns) (i := c % ((ns.map V.int).length : Nat)) (Int.emod_nonneg _ (by omega)) (by rw [hl]; exact Int.emod_lt_of_pos _ (by omega))
    refine ⟨_, rfl, p, _, 0, _, rfl, rfl, SqL.of hp, atI_nat (j := 0) rfl, _, rfl, p, _, 2, _, rfl, rfl, SqL.of hp, atI_nat (j := 2) rfl, .inl ⟨_, rfl, ?_⟩⟩
    refine ⟨_, rfl, p, _, 0, _, rfl, rfl, SqL.of hp, atI_nat (j := 0) rfl, a, _, rfl, .inl hSn, _, _, rfl, rfl, (by show (0 : Int) < ((ns.map V.int).length : Nat); omega), a, _, _, _, rfl, rfl, hSn, hv, ?_⟩
    -- state[1] = ..
    refine ⟨_, rfl, p, _, 1, _, rfl, rfl, SqL.of hp, atI_nat (j := 1) rfl, _, _, rfl, rfl, .inr ⟨by decide, by decide⟩, _, rfl, _, _, rfl, rfl, .inr ⟨by decide, by decide⟩, _, _, rfl, rfl, _, rfl, p, _, 2, _, rfl, rfl, SqL.of hp, atI_nat (j := 2) rfl, _, _, rfl, rfl, .inr ⟨by decide, by decide⟩, _, _, rfl, rfl, _, _, rfl, rfl, .inl ⟨_, rfl, ?_⟩⟩
    refine ⟨_, _, rfl, rfl, (by show (0 : Int) < 2147483647; decide), _, rfl, p, _, 1, 1, rfl, rfl, hp, rfl, ?_⟩
    -- state[2] = ..
    refine ⟨_, rfl, p, _, 2, _, rfl, rfl, SqL.of upd_same, atI_nat (j := 2) rfl, _, _, rfl, rfl, _, rfl, p, _, 2, 2, rfl, rfl, upd_same, rfl, ?_⟩
    refine ⟨_, rfl, p, _, 1, _, rfl, rfl, SqL.of upd_same, atI_nat (j := 1) rfl, _, _, rfl, rfl, .inr ⟨by decide, by decide⟩, _, _, rfl, rfl, .inl ⟨_, rfl, ?_⟩⟩
    refine ⟨_, _, rfl, rfl, (by show (0 : Int) < 2147483629; decide), _, rfl, _, _, rfl, rfl, h0, ?_⟩
    refine q _ _ (Int.emod_nonneg _ (by omega)) (Int.emod_lt_of_pos _ h0) ⟨e, _, _, m, upd_same, ?_⟩ ((But.put _ _).trans (.put _ _))
    exact .inl ⟨m1, npos⟩
  · -- whole numbers, drawn from by their rests
    have m0 : m = 0 ∧ 0 ≤ r ∧ 0 ≤ c := by
      rcases ok with ⟨z, _⟩ | z
      · exact absurd (by rw [z]; rfl) t1
      · exact z
    obtain ⟨rfl, r0, c0⟩ := m0
    have fin : ∀ (r1 c1 : Int) (H1 : Hp), 0 ≤ r1 → 0 ≤ c1 → But p H H1 → H1 p = some (.lst (stL a e r1 c1 0)) → ∀ d, d = r1 % many → Q (.int d) (upd H1 p (.lst (stL a e (r1 / many) c1 0))) := fun r1 c1 H1 k1 k2 k3 k4 d hd => by
      subst hd
      exact q _ _ (Int.emod_nonneg _ (by omega)) (Int.emod_lt_of_pos _ h0) ⟨e, _, _, 0, upd_same, .inr ⟨rfl, Int.ediv_nonneg k1 (by omega), k2⟩⟩ (k3.trans (.put _ _))
    refine ⟨_, rfl, p, _, 1, _, rfl, rfl, SqL.of hp, atI_nat (j := 1) rfl, rfl, _, rfl, ite2 (fun t2 => ?_) (fun t2 => ?_)⟩
    · refine ⟨_, rfl, p, _, 2, _, rfl, rfl, SqL.of hp, atI_nat (j := 2) rfl, _, rfl, p, _, 0, _, rfl, rfl, SqL.of hp, atI_nat (j := 0) rfl, a, _, rfl, .inl hSn, _, _, rfl, rfl, _, rfl, ite2 (fun t3 => ?_) (fun t3 => ?_)⟩
      · exact q _ _ (Int.le_refl 0) h0 ⟨e, r, c, 0, hp, ok⟩ (But.refl _ _)
      · have lt : c < ((ns.map V.int).length : Nat) := by
          have := of_decide_eq_false (Bool.eq_false_iff.mpr t3)
          omega
        obtain ⟨v, hv⟩ := at_n (ns := ns) (i := c) c0 (by omega)
        refine ⟨_, rfl, p, _, 0, _, rfl, rfl, SqL.of hp, atI_nat (j := 0) rfl, _, rfl, p, _, 2, _, rfl, rfl, SqL.of hp, atI_nat (j := 2) rfl, a, _, _, _, rfl, rfl, hSn, hv, _, rfl, _, rfl, p, _, 1, 1, rfl, rfl, hp, rfl, ?_⟩
        refine ⟨_, rfl, p, _, 2, _, rfl, rfl, SqL.of upd_same, atI_nat (j := 2) rfl, _, _, rfl, rfl, _, rfl, p, _, 2, 2, rfl, rfl, upd_same, rfl, ?_⟩
        refine ⟨_, rfl, p, _, 1, _, rfl, rfl, SqL.of upd_same, atI_nat (j := 1) rfl, .inl ⟨_, rfl, ?_⟩⟩
        refine ⟨_, rfl, _, _, rfl, rfl, h0, ?_⟩
        refine ⟨_, rfl, p, _, 1, _, rfl, rfl, SqL.of upd_same, atI_nat (j := 1) rfl, _, rfl, _, _, rfl, rfl, ⟨h0, h9⟩, _, rfl, p, _, 1, 1, rfl, rfl, upd_same, rfl, ?_⟩
        refine ⟨_, rfl, ?_⟩
        exact fin (if v < 0 then -v else v) (c + 1) (upd (upd H p _) p _) (by split <;> omega) (by omega) ((But.put _ _).trans (.put _ _)) upd_same _ rfl
    · refine ⟨_, rfl, p, _, 1, _, rfl, rfl, SqL.of hp, atI_nat (j := 1) rfl, .inl ⟨_, rfl, ?_⟩⟩
      refine ⟨_, rfl, _, _, rfl, rfl, h0, ?_⟩
      refine ⟨_, rfl, p, _, 1, _, rfl, rfl, SqL.of hp, atI_nat (j := 1) rfl, _, rfl, _, _, rfl, rfl, ⟨h0, h9⟩, _, rfl, p, _, 1, 1, rfl, rfl, hp, rfl, ?_⟩
      refine ⟨_, rfl, ?_⟩
      exact fin r c H r0 c0 (But.refl _ _) hp _ rfl
end
end KL

namespace KL
open PySem PySem.Spec PyProof.Rows L2 KG
abbrev sinteger_of : Stmt := topS 5
abbrev Ninteger_of : List Str := ["word", "digits", "digit"]
theorem scinteger_of : FnScope Ninteger_of ["word"] (defScope sinteger_of) := ⟨rfl, rfl, rfl, by decide +kernel, rfl, by decide +kernel, by decide +kernel⟩
section
variable {P : Program} {w : World} {K : PySem.W.Frag} {mg : Str → Option Value} {base : Heap}
def sp_integer_of : Sp := fun vs H Q _ => ∃ x : Str, vs = [.str x] ∧ x.length ≤ 10000000 ∧ (∀ n : Int, isWhole x = true → intText? x = some n → numS n = x → Q (.int n) H) ∧ (isWhole x = false → Q .non H)
theorem ok_integer_of {f : Addr} {fd : FuncData} {k : Nat} {tm : Tok} (F : Fun K "integer_of" "integer_of" sinteger_of f fd) (M : Names mg) (gM : mg "MOST_DIGITS" = some (.int 30 tm)) : FnOk P w K mg base CX0 (k + 1) f fd ["word"] sp_integer_of := by
  refine F.ok scinteger_of (fun vs H Q E h => ?_) (fun cdv A outer s H vs Q E hr h => ?_)
  · obtain ⟨x, rfl, _⟩ := h
    rfl
  obtain ⟨x, rfl, hx, yes, no⟩ := h
  refine ⟨_, (pss_cons (ps_if (pt_cmpR op_eq (pv 0) pe_str (nomark _))
      (pss_one (ps_ret pe_int))
      pss_nil)
    (pss_cons (ps_set (i := 1) scinteger_of.nd rfl (.inl rfl) (pe_bm PySem.F.plainAttrs_str PySem.F.slot_str_removeprefix PySem.F.type_str_removeprefix mt_removeprefix (pv 0) (pa_cons pe_str pa_nil)))
    (pss_cons (ps_if (PW.pt (pw_or (pt_not (pt_chain op_le op_le pe_int (pe_callB call_len_str (by rfl) M.len PySem.boot_len (pa_cons (pv 1) pa_nil)) (pe_glob (v := .int 30) (by rfl) gM ⟨_, rfl⟩))) (pw_or1 (pt_cmpR op_eq (pe_ix ix_str (pv 1) pe_int (fun _ _ => rfl)) pe_str (nomark _)))))
      (pss_one (ps_ret pe_non))
      pss_nil)
    (pss_cons (ps_for PassesOwn.never rfl (pi_str (pv 1)) (pg_name (i := 2) scinteger_of.nd rfl (.inl rfl))
      (pss_one (ps_if (pt_cmpR op_notIn_sign (pv 2) pe_str (by rfl))
        (pss_one (ps_ret pe_non))
        pss_nil)))
    (pss_one (ps_ret (pe_callTy call_int_str (by rfl) M.int (by decide +kernel) (pa_cons (pv 0) pa_nil)))))))), ?_⟩
  have szl : ∀ y : Str, y.length ≤ x.length → y.length ≤ sizeLine := fun y h => by rw [sizeLine_eq]; omega
  have ny := szl _ (digs_le x)
  refine ⟨_, rfl, rfl, _, rfl, ite2 (fun c0 => ?_) (fun c0 => ?_)⟩
  · have e0 : x = "0" := V.str.inj (of_decide_eq_true c0)
    have hw : isWhole x = true := by rw [e0]; decide +kernel
    obtain ⟨n, h1, h2, _⟩ := canon_read hw
    have h3 : n = 0 := numS_inj (h2.trans (e0.trans (by decide +kernel)))
    have q := yes n hw h1 h2
    rw [h3] at q
    exact q
  have e0 : ¬ x = "0" := fun e => c0 (decide_eq_true (by rw [e]))
  refine ⟨_, rfl, rfl, x, "-", rfl, rfl, szl _ (Nat.le_refl _), ?_⟩
  rw [show Txt.removeprefix x "-" = digs x from removeprefix_digs x]
  have dl := digs_le x
  have wh : isWhole x = (decide (1 ≤ (digs x).length) && decide ((digs x).length ≤ 30) && (digs x).cps.toList.all (fun c => decide (c ∈ dec)) && decide ((digs x).cps[0]? ≠ some 48)) := by
    unfold isWhole; rw [decide_eq_false e0, Bool.false_or]
  generalize hd : digs x = d at ny dl wh
  refine ⟨_, rfl, _, rfl, ny, _, _, rfl, rfl, _, rfl, ite2 (fun c1 => ⟨_, _, rfl, rfl, _, rfl, ite2 (fun c2 => iteT ?B2) (fun c2 => ?GO)⟩) (fun c1 => ⟨_, rfl, iteT (iteT ?B1)⟩)⟩
  case B1 =>
    refine no ?_
    have h := of_decide_eq_false (Bool.eq_false_iff.mpr c1)
    rw [wh, decide_eq_false (show ¬ 1 ≤ d.length by omega)]; rfl
  case B2 =>
    refine no ?_
    have h : ¬ ((d.length : Int) ≤ 30) := of_decide_eq_false ((Bool.not_eq_true' _).mp c2)
    rw [wh, decide_eq_false (show ¬ d.length ≤ 30 by omega)]; simp
  have g1 : 1 ≤ d.length := by have := of_decide_eq_true c1; omega
  have g2 : d.length ≤ 30 := by
    have h : ((d.length : Int) ≤ 30) := of_decide_eq_true ((Bool.not_eq_false' (b := _)).mp (Bool.eq_false_iff.mpr c2))
    omega
  have hs : 0 < d.cps.size := g1
  have hg : d.cps[0]? = some d.cps[0] := Array.getElem?_eq_getElem hs
  have e5 : decide (V.str ⟨#[d.cps[0]]⟩ = V.str "0") = decide (d.cps[0] = 48) := by
    by_cases z : d.cps[0] = 48
    · rw [z]; rfl
    · rw [decide_eq_false z, decide_eq_false]
      intro y
      have y3 := congrArg (fun t : Str => t.cps.toList) (V.str.inj y)
      exact z (List.cons.inj (y3.trans (show ("0" : Str).cps.toList = [48] by decide +kernel))).1
  refine ⟨_, rfl, _, 0, d.cps[0], rfl, rfl, ny, atI_nat (j := 0) (by rw [Array.getElem?_toList]; exact hg), rfl, _, rfl, ?_⟩
  rw [e5]
  refine ite2 (fun c3 => ?_) (fun c3 => ?_)
  · refine no ?_
    rw [wh, hg, of_decide_eq_true c3]; simp
  have g3 : d.cps[0] ≠ 48 := of_decide_eq_false (Bool.eq_false_iff.mpr c3)
  have wh2 : isWhole x = d.cps.toList.all (fun c => decide (c ∈ dec)) := by
    rw [wh, hg, decide_eq_true g1, decide_eq_true g2, decide_eq_true (p := some _ ≠ some 48) (fun y => g3 (Option.some.inj y))]; simp
  refine ⟨_, rfl, d, rfl, ⟨fun i m σ H' => m = d.cps.size - i ∧ i ≤ d.cps.size ∧ H' = H ∧ (∃ y2 : Option V, σ = [some (.str x), some (.str d), y2]) ∧ ∀ j, j < i → ∀ c, d.cps[j]? = some c → c ∈ dec,
    ⟨_, rfl, Nat.zero_le _, rfl, ⟨none, rfl⟩, fun j h => by omega⟩, ?_⟩⟩
  rintro i m σ H' ⟨rfl, hi, rfl, ⟨y2, rfl⟩, hall⟩
  by_cases hlt : i < d.cps.size
  · refine .inr ⟨hlt, fun σ' H'' => H'' = H' ∧ (∃ y2 : Option V, σ' = [some (.str x), some (.str d), y2]) ∧ ∀ j, j < i + 1 → ∀ c, d.cps[j]? = some c → c ∈ dec, fun σ' H'' p => ⟨d.cps.size - (i + 1), by omega, rfl, hlt, p⟩, fun v H'' y => ?_⟩
    obtain ⟨rfl, c, hc, rfl⟩ := y
    refine ⟨_, rfl, c, _, rfl, rfl, _, rfl, ite2 (fun c4 => ?_) (fun c4 => ?_)⟩
    · refine no ?_
      have n4 : ¬ c ∈ dec := of_decide_eq_false ((Bool.not_eq_true' _).mp c4)
      rw [wh2, List.all_eq_false]
      exact ⟨c, List.mem_of_getElem? (i := i) (by rw [Array.getElem?_toList]; exact hc), by simpa using n4⟩
    · have n4 : c ∈ dec := of_decide_eq_true ((Bool.not_eq_false' (b := _)).mp (Bool.eq_false_iff.mpr c4))
      refine ⟨rfl, ⟨_, rfl⟩, fun j hj c' hc' => ?_⟩
      by_cases z : j = i
      · rw [z, hc] at hc'
        rw [← Option.some.inj hc']; exact n4
      · exact hall j (by omega) c' hc'
  · refine .inl ⟨by show d.cps.size ≤ i; omega, ?_⟩
    have hw : isWhole x = true := by
      rw [wh2, List.all_eq_true]
      intro c hc
      obtain ⟨j, hj, rfl⟩ := List.getElem_of_mem hc
      have hj' : j < d.cps.size := by rw [← Array.length_toList]; exact hj
      exact decide_eq_true (hall j (by omega) _ (by rw [← Array.getElem?_toList]; exact List.getElem?_eq_getElem hj))
    obtain ⟨n, h1, h2, _, h4⟩ := canon_read hw
    exact ⟨_, rfl, x, n, rfl, h1, by omega, yes n hw h1 h2⟩
end
end KL

namespace KG
open PySem PySem.Spec PyProof.Rows L2
/-- a loop over reversed(list) -/
theorem for_revL {K : PySem.W.Frag} {a : Addr} {xs : List V} {g : TG} {tb : TS} {D : Ends} {σ : L2.St} {H : Hp} (Pv : Nat → L2.St → Hp → Prop) (h0 : Pv 0 σ H) (hq : ∀ i σ H, Pv i σ H → SqL K H a xs)
    (hs : ∀ (i : Nat) (x : V) (σ : L2.St) (H : Hp), i < xs.length → xs[xs.length - 1 - i]? = some x → Pv i σ H → g x σ H fun σ2 H2 => tb { D with nx := Pv (i + 1), ct := Pv (i + 1), bk := D.nx } σ2 H2) (hd : ∀ σ H, Pv xs.length σ H → D.nx σ H) :
    ∃ W : Nat → Nat → L2.St → Hp → Prop, (∃ m, W 0 m σ H) ∧ ∀ i m σ H, W i m σ H → ((Itv K a xs.length).stop i H ∧ D.nx σ H) ∨ ((Itv K a xs.length).go i H ∧ ∃ N : L2.St → Hp → Prop, (∀ σ' H', N σ' H' → ∃ m', m' < m ∧ W (i + 1) m' σ' H') ∧ ∀ v H', (Itv K a xs.length).yld i H v H' → g v σ H' fun σ2 H2 => tb { D with nx := N, ct := N, bk := D.nx } σ2 H2) := by
  refine ⟨fun i m σ H => m = xs.length - i ∧ i ≤ xs.length ∧ Pv i σ H, ⟨_, rfl, Nat.zero_le _, h0⟩, ?_⟩
  rintro i m σ H ⟨rfl, hi, p⟩
  have qx := hq i σ H p
  by_cases hlt : i < xs.length
  · refine .inr ⟨⟨hlt, xs, xs[xs.length - 1 - i], qx, List.getElem?_eq_getElem (by omega)⟩, Pv (i + 1), fun σ' H' p' => ⟨_, by omega, rfl, hlt, p'⟩, ?_⟩
    rintro v H' ⟨rfl, f1⟩
    exact hs i v σ _ hlt (f1 xs qx) p
  · obtain rfl : i = xs.length := by omega
    exact .inl ⟨Nat.le_refl _, hd σ H p⟩
end KG
namespace KL
open PySem PySem.Spec PyProof.Rows L2 KG
abbrev s_bt : Stmt := inCls (topS 2) 0
abbrev N_bt : List Str := ["self", "place"]
theorem sc_bt : FnScope N_bt ["self", "place"] (defScope s_bt) := ⟨rfl, rfl, rfl, by decide +kernel, rfl, by decide +kernel, by decide +kernel⟩
abbrev sread_formula : Stmt := topS 8
abbrev Nread_formula : List Str := ["text", "words", "fault", "found", "word", "parts", "first"]
theorem scread_formula : FnScope Nread_formula ["text"] (defScope sread_formula) := ⟨rfl, rfl, rfl, by decide +kernel, rfl, by decide +kernel, by decide +kernel⟩
abbrev s_fault : Stmt := topS 9
abbrev N_fault : List Str := ["words", "missing", "place", "word", "parts"]
theorem sc_fault : FnScope N_fault ["words"] (defScope s_fault) := ⟨rfl, rfl, rfl, by decide +kernel, rfl, by decide +kernel, by decide +kernel⟩
section
variable {P : Program} {w : World} {K : PySem.W.Frag} {mg : Str → Option Value} {base : Heap} {C fI W aD : Addr}
theorem ok_bt {f : Addr} {fd : FuncData} {k : Nat} (F : Fun K "__init__" "BadText.__init__" s_bt f fd) : FnOk P w K mg base CX0 (k + 1) f fd ["self", "place"] (spInit K "place" C) := by
  refine F.ok sc_bt (fun vs H Q E h => ?_) (fun cdv A outer s H vs Q E hr h => ?_)
  · obtain ⟨a, v, rfl, _⟩ := h
    rfl
  obtain ⟨a, v, rfl, hT, hno, ha, fin⟩ := h
  refine ⟨_, pss_one (ps_ost (f := "place") (pv 0) (pv 1)), ?_⟩
  exact ⟨_, rfl, _, rfl, a, C, rfl, hT, hno, .inl ⟨ha, fun dx n ne => fin dx n ne⟩⟩
def sp_fault : Sp := fun vs H Q _ => ∃ (l : Addr) (ws : List Str), vs = [.ref l] ∧ H l = some (.lst (ws.map V.str)) ∧ ws.length ≤ 1000000 ∧ (∀ x ∈ ws, x.length ≤ 10000000) ∧ (faultF ws = none → ∀ H', Same H H' → Q .non H') ∧ (∀ k, faultF ws = some k → ∀ H', Same H H' → Q (.int (k : Int)) H')
theorem ok_fault {f : Addr} {fd : FuncData} {k : Nat} (F : Fun K "_fault" "_fault" s_fault f fd) (M : Names mg) (gP : mg "PARTS" = some (.ref aD)) (D : KDi K w aD partsD) (G : Cal P w K mg base k "integer_of" ["word"] sp_integer_of) : FnOk P w K mg base CX0 (k + 1) f fd ["words"] sp_fault := by
  refine F.ok sc_fault (fun vs H Q E h => ?_) (fun cdv A outer s H vs Q E hr h => ?_)
  · obtain ⟨l, ws, rfl, _⟩ := h
    rfl
  obtain ⟨l, ws, rfl, hl, hlen, hx, kN, kS⟩ := h
  refine ⟨_, (pss_cons (ps_set (i := 1) sc_fault.nd rfl (.inl rfl) pe_int)
    (pss_cons (ps_for PassesOwn.never rfl (pi_enum (by rfl) M.enumerate (pa_cons (pv 0) pa_nil)) (pg_tup rfl (pgs_cons (pg_name (i := 2) sc_fault.nd rfl (.inl rfl)) (pgs_cons (pg_name (i := 3) sc_fault.nd rfl (.inl rfl)) pgs_nil)))
      (pss_cons (ps_set (i := 4) sc_fault.nd rfl (.inl rfl) (pe_kget2 (pe_glob (v := .ref aD) (by rfl) gP rfl) (pv 3) pe_int ⟨by rfl, by rfl, by rfl, by rfl⟩))
      (pss_cons (ps_if (PW.pt (pw_or (pt_cmpR op_eq (pv 1) pe_int (nomark _)) (pw_or1 (PW.pt (pw_and (pt_cmpR op_eq (pv 4) pe_int (nomark _)) (pw_and1 (pt_cmpR op_isN (pe_call G.ok hr (by rfl) G.m G.kp G.b .nil pass0 (pa_cons (pv 3) pa_nil)) pe_non (nomark _))))))))
        (pss_one (ps_ret (pv 2)))
        pss_nil)
      (pss_one (ps_set (i := 1) sc_fault.nd rfl (.inl rfl) (pe_op op_sub (pe_op op_add (pv 1) (pv 4)) pe_int))))))
    (pss_cons (ps_if (pt_cmpR op_gt (pv 1) pe_int (nomark _))
      (pss_one (ps_ret (pe_callB call_len_seq (by rfl) M.len PySem.boot_len (pa_cons (pv 0) pa_nil))))
      pss_nil)
    (pss_one (ps_ret pe_non))))), ?_⟩
  have lws : (ws.map V.str).length = ws.length := List.length_map _
  refine ⟨_, rfl, l, _, rfl, SqL.of hl, for_enumL (xs := ws.map V.str) (fun i σ H' => ∃ (m : Nat) (y2 y3 y4 : Option V), σ = [some (.ref l), some (.int (m : Int)), y2, y3, y4] ∧ Same H H' ∧ i ≤ ws.length ∧ flt i m (ws.drop i) = faultF ws)
    ⟨1, none, none, none, rfl, fun _ _ e => e, Nat.zero_le _, rfl⟩ (fun i σ H' hP => by obtain ⟨_, _, _, _, _, sm, _⟩ := hP; exact SqL.of (sm _ _ hl)) (fun i v T' σ H' hv hP nT => ?_) (fun σ H' hP => ?_)⟩
  · obtain ⟨m, y2, y3, y4, rfl, sm, _, hf⟩ := hP
    have hi : i < ws.length := by
      have := (List.getElem?_eq_some_iff.mp hv).1
      omega
    have gx : ws[i]? = some ws[i] := List.getElem?_eq_getElem hi
    have mx := List.getElem_mem hi
    have ed : ws.drop i = ws[i] :: ws.drop (i + 1) := List.drop_eq_getElem_cons hi
    rw [ed] at hf
    generalize ws[i] = x at gx mx hf
    obtain rfl : v = .str x := by
      rw [List.getElem?_map, gx] at hv
      exact (Option.some.inj hv).symm
    have S3 := same_new nT (.tup [V.int (i : Nat), .str x])
    have sm3 := sm.trans S3
    have step : flt i m (x :: ws.drop (i + 1)) = if m = 0 ∨ (pn x = 0 ∧ isWhole x = false) then some i else flt (i + 1) (m + pn x - 1) (ws.drop (i + 1)) := rfl
    rw [step] at hf
    refine ⟨T', _, rfl, SqT.of upd_same, rfl, _, _, rfl, _, _, rfl, rfl, ?_⟩
    refine ⟨aD, partsD, rfl, D, _, rfl, x, rfl, ?_⟩
    rw [kd_parts x]
    have stop : (m = 0 ∨ (pn x = 0 ∧ isWhole x = false)) → ∀ H', Same H H' → Q (.int (i : Nat)) H' := fun h H' s => kS i (by rw [← hf, if_pos h]) H' s
    have go : ¬ (m = 0 ∨ (pn x = 0 ∧ isWhole x = false)) → ∃ m' : Nat, ((m : Int) + (pn x : Int) - 1) = (m' : Int) ∧ flt (i + 1) m' (ws.drop (i + 1)) = faultF ws := fun h => ⟨m + pn x - 1, by have : ¬ m = 0 := fun z => h (.inl z); omega, by rw [← hf, if_neg h]⟩
    refine ⟨_, rfl, rfl, _, rfl, ite2 (fun c1 => iteT ?_) (fun c1 => ⟨_, rfl, rfl, _, rfl, ite2 (fun c2 => ?_) (fun c2 => iteF ?_)⟩)⟩
    · have h1 : m = 0 := by have := V.int.inj (of_decide_eq_true c1); omega
      exact ⟨_, rfl, stop (.inl h1) _ sm3⟩
    · have h2 : pn x = 0 := by have := V.int.inj (of_decide_eq_true c2); omega
      refine ⟨_, rfl, x, rfl, hx x mx, fun n a1 a2 a3 => ⟨rfl, _, rfl, iteF' rfl ?_⟩, fun a1 => ⟨rfl, _, rfl, iteT' rfl ?_⟩⟩
      · obtain ⟨m', e1, e2⟩ := go (fun z => by
          rcases z with z | ⟨_, z⟩
          · exact c1 (decide_eq_true (by rw [z]; rfl))
          · rw [a1] at z; cases z)
        refine ⟨_, rfl, _, rfl, _, _, rfl, rfl, _, _, rfl, rfl, ?_⟩
        exact ⟨m', _, _, _, by rw [← e1]; rfl, sm3, hi, e2⟩
      · exact ⟨_, rfl, stop (.inr ⟨h2, a1⟩) _ sm3⟩
    · obtain ⟨m', e1, e2⟩ := go (fun z => by
        rcases z with z | ⟨z, _⟩
        · exact c1 (decide_eq_true (by rw [z]; rfl))
        · exact c2 (decide_eq_true (by rw [z]; rfl)))
      refine ⟨_, rfl, _, rfl, _, _, rfl, rfl, _, _, rfl, rfl, ?_⟩
      exact ⟨m', _, _, _, by rw [← e1]; rfl, sm3, hi, e2⟩
  · obtain ⟨m, y2, y3, y4, rfl, sm, _, hf⟩ := hP
    rw [lws, List.drop_length] at hf
    have hf : (if 0 < m then some ws.length else none) = faultF ws := hf
    refine ⟨_, rfl, _, _, rfl, rfl, _, rfl, ite2 (fun c => ?_) (fun c => ?_)⟩
    · have h : 0 < m := by have := of_decide_eq_true c; omega
      rw [if_pos h] at hf
      refine ⟨_, rfl, l, _, rfl, .inl (SqL.of (sm _ _ hl)), ?_⟩
      rw [lws]
      exact kS _ hf.symm _ sm
    · have h : ¬ 0 < m := by have := of_decide_eq_false (Bool.eq_false_iff.mpr c); omega
      rw [if_neg h] at hf
      exact kN hf.symm _ sm
def sp_read_formula (C : Addr) : Sp := fun vs H Q E => ∃ x : Str, vs = [.str x] ∧ x.length ≤ 900000 ∧
  (faultF (Txt.split x " ") = none → ∀ H' p f, Same H H' → FAt H' p f → f.ws = Txt.split x " " → f.ok → Q (.ref p) H') ∧
  (∀ k, faultF (Txt.split x " ") = some k → ∀ H' d, Same H H' → H' d = some (.xd [(("place" : Str), .int (k : Int))]) → E (.ref C) (some d) H')
theorem same_delT {H H1 : Hp} {a d : Addr} {C : Addr} {fs : List (Str × V)} {o1 o2 : HO} (s : Same H H1) (na : H1 a = none) (nd : (upd H1 a o1) d = none) (ne : d ≠ a) : Same H (upd (del (upd (upd (upd H1 a o1) d o2) a (exo a C (some d))) a) d (.xd fs)) := fun b o e => by
  have h1 := s b o e
  have ba : b ≠ a := ne_of_none h1 na
  have bd : b ≠ d := fun z => by
    rw [z, ← upd_ne (H := H1) (o := o1) ne] at h1
    rw [nd] at h1; cases h1
  rw [upd_ne bd, del_ne ba, upd_ne ba, upd_ne bd, upd_ne ba]; exact h1
theorem ok_read_formula {f : Addr} {fd fdi : FuncData} {k : Nat} (F : Fun K "read_formula" "read_formula" sread_formula f fd) (M : Names mg) (gP : mg "PARTS" = some (.ref aD)) (D : KDi K w aD partsD) (T : OwnE K mg "BadText" "place" C fI W) (Gi : FnOk P w K mg base CX0 (k + 1) fI fdi ["self", "place"] (spInit K "place" C)) (bi : Binds K fdi ["self", "place"] [])
    (G : Cal P w K mg base (k + 2) "_fault" ["words"] sp_fault) : FnOk P w K mg base (L2.CX P w) (k + 3) f fd ["text"] (sp_read_formula C) := by
  refine F.okX scread_formula (fun vs H Q E h => ?_) (fun cdv A outer s H vs Q E hr h => ?_)
  · obtain ⟨x, rfl, _⟩ := h
    rfl
  obtain ⟨x, rfl, hx, kN, kB⟩ := h
  refine ⟨_, (pss_cons (ps_set (i := 1) scread_formula.nd rfl (.inl rfl) (pe_split (pv 0) pe_str))
    (pss_cons (ps_set (i := 2) scread_formula.nd rfl (.inl rfl) (pe_call G.ok hr (by rfl) G.m G.kp G.b .nil pass0 (pa_cons (pv 1) pa_nil)))
    (pss_cons (ps_if (pt_cmpR op_notN (pv 2) pe_non (nomark _))
      (pss_one (ps_raise rfl (takes_of (E := E) rfl rfl rfl rfl) (pmk_oex T.oex T.iC T.tI Gi hr bi .nil pass0 (by rfl) T.gC (pa_cons (pv 2) pa_nil))))
      pss_nil)
    (pss_cons (ps_set (i := 3) scread_formula.nd rfl (.inl rfl) (pe_lst pa_nil))
    (pss_cons (ps_for PassesOwn.leaving rfl (pi_reversed (by rfl) M.reversed (pa_cons (pv 1) pa_nil)) (pg_name (i := 4) scread_formula.nd rfl (.inl rfl))
      (pss_cons (ps_set (i := 5) scread_formula.nd rfl (.inl rfl) (pe_kget2 (pe_glob (v := .ref aD) (by rfl) gP rfl) (pv 4) pe_int ⟨by rfl, by rfl, by rfl, by rfl⟩))
      (pss_one (ps_if (pt_cmpR op_eq (pv 5) pe_int (nomark _))
        (pss_one (ps_expr (pe_bm PySem.F.plainAttrs_list PySem.F.slot_list_append PySem.F.type_list_append mt_append (pv 3) (pa_cons (pe_tup (pa_cons pe_str (pa_cons (pe_callTy call_int_str (by rfl) M.int (by decide +kernel) (pa_cons (pv 4) pa_nil)) pa_nil))) pa_nil))))
        (pss_one (ps_if (pt_cmpR op_eq (pv 5) pe_int (nomark _))
          (pss_one (ps_expr (pe_bm PySem.F.plainAttrs_list PySem.F.slot_list_append PySem.F.type_list_append mt_append (pv 3) (pa_cons (pe_tup (pa_cons (pv 4) (pa_cons (pe_bm0 PySem.F.plainAttrs_list PySem.F.slot_list_pop PySem.F.type_list_pop mt_pop (pv 3)) pa_nil))) pa_nil))))
          (pss_cons (ps_set (i := 6) scread_formula.nd rfl (.inl rfl) (pe_bm0 PySem.F.plainAttrs_list PySem.F.slot_list_pop PySem.F.type_list_pop mt_pop (pv 3)))
          (pss_one (ps_expr (pe_bm PySem.F.plainAttrs_list PySem.F.slot_list_append PySem.F.type_list_append mt_append (pv 3) (pa_cons (pe_tup (pa_cons (pv 4) (pa_cons (pv 6) (pa_cons (pe_bm0 PySem.F.plainAttrs_list PySem.F.slot_list_pop PySem.F.type_list_pop mt_pop (pv 3)) pa_nil)))) pa_nil)))))))))))
    (pss_one (ps_ret (pe_ix ix_list (pv 3) pe_int (fun _ _ => rfl))))))))), ?_⟩
  have hln := sep_blank.len x
  have hcn := sep_blank.count x
  refine ⟨_, rfl, ⟨_, rfl⟩, x, " ", rfl, rfl, (by decide +kernel), (by rw [sizeLine_eq]; omega), fun p np => ?_⟩
  generalize Txt.split x " " = ws at kN kB hln hcn
  have S1 := same_new np (.lst (ws.map V.str))
  have hp : (upd H p (.lst (ws.map V.str))) p = some (.lst (ws.map V.str)) := upd_same
  have lws : (ws.map V.str).length = ws.length := List.length_map _
  generalize (upd H p (.lst (ws.map V.str))) = H1 at S1 hp
  refine ⟨_, rfl, p, ws, rfl, hp, by omega, fun z hz => Nat.le_trans (hln z hz) (by omega), fun e H2 s2 => ?_, fun k e H2 s2 => ?_⟩
  case refine_2 =>
    refine ⟨_, rfl, rfl, _, rfl, iteT' rfl ?_⟩
    refine ⟨_, rfl, (by show 1 ≤ 1000; decide), fun a na => ⟨a, .int (k : Nat), rfl, T.oex, T.noF, upd_same, fun dx ndx ne => ⟨rfl, dx, [(("place" : Str), .int (k : Nat))], upd_same, by rw [upd_ne ne, upd_same], by rw [← upd_ne (H := H2) ne]; exact ndx, ?_⟩⟩⟩
    exact kB k e _ dx (same_delT (S1.trans s2) na ndx ne) upd_same
  obtain ⟨f0, fj⟩ := flt_none ws 0 1 e
  refine ⟨_, rfl, rfl, _, rfl, iteF' rfl ?_⟩
  have hp2 := s2 _ _ hp
  have s12 := S1.trans s2
  refine ⟨Nat.zero_le _, fun q nq => ?_⟩
  have S3 := same_new nq (.lst [])
  have pq : p ≠ q := fun z => by rw [← z, hp2] at nq; cases nq
  have qH : H q = none := s12.free nq
  refine ⟨_, rfl, p, ws.map V.str, rfl, SqL.of (S3 _ _ hp2), for_revL (xs := ws.map V.str) (fun i σ H' => ∃ (us : List V) (fs : List Fm) (y4 y5 y6 : Option V), σ = [some (.str x), some (.ref p), some .non, some (.ref q), y4, y5, y6] ∧ Same H H' ∧ H' p = some (.lst (ws.map V.str)) ∧ H' q = some (.lst us) ∧ FsAt H' us fs ∧ i ≤ ws.length ∧ backW fs = ws.drop (ws.length - i) ∧ fs.length = mis 1 ws (ws.length - i) ∧ ∀ f ∈ fs, f.ok)
    ⟨[], [], none, none, none, rfl, s12.trans S3, S3 _ _ hp2, upd_same, .nil, Nat.zero_le _, by rw [Nat.sub_zero, List.drop_length]; rfl, by rw [Nat.sub_zero, f0]; rfl, fun f h => by cases h⟩ (fun i σ H' hP => by obtain ⟨_, _, _, _, _, _, _, h, _⟩ := hP; exact SqL.of h) (fun i v σ H' hi hv hP => ?_) (fun σ H' hP => ?_)⟩
  · obtain ⟨us, fs, y4, y5, y6, rfl, sm, hp', hq', hfs, _, hb, hl, hok⟩ := hP
    rw [lws] at hi hv
    obtain ⟨j, ej⟩ : ∃ j, j = ws.length - 1 - i := ⟨_, rfl⟩
    have hj : j < ws.length := by omega
    have e1 : ws.length - i = j + 1 := by omega
    have e2 : ws.length - (i + 1) = j := by omega
    rw [← ej] at hv
    rw [e1] at hb hl
    obtain ⟨g1, g2, g3⟩ := fj j hj
    have gx : ws[j]? = some ws[j] := List.getElem?_eq_getElem hj
    have mx := List.getElem_mem hj
    have ed : ws.drop j = ws[j] :: ws.drop (j + 1) := List.drop_eq_getElem_cons hj
    generalize ws[j] = wd at g2 g3 gx mx ed
    obtain rfl : v = .str wd := by
      rw [List.getElem?_map, gx] at hv
      exact (Option.some.inj hv).symm
    have lus := hfs.len
    have hcnt : mis 1 ws (j + 1) ≤ 2000000 := by
      have bound : ∀ k, k ≤ ws.length → mis 1 ws k ≤ k + 1 := by
        intro k
        induction k with
        | zero => intro _; cases ws <;> exact Nat.le_refl _
        | succ k ih =>
          intro hk
          obtain ⟨_, _, g3'⟩ := fj k hk
          have := ih (by omega)
          have := pn_le ws[k]
          omega
      have := bound (j + 1) hj
      omega
    have done : ∀ (H5 : Hp) (us5 : List V) (fs5 : List Fm) (y5 y6 : Option V), Same H' (upd H5 q (.lst us5)) → True := fun _ _ _ _ _ _ => trivial
    refine ⟨aD, partsD, rfl, D, _, rfl, _, rfl, ?_⟩
    rw [kd_parts wd]
    refine ⟨_, rfl, rfl, _, rfl, ite2 (fun c1 => ?_) (fun c1 => ⟨_, rfl, rfl, _, rfl, ite2 (fun c2 => ?_) (fun c2 => ?_)⟩)⟩
    · have h0 : pn wd = 0 := by have := V.int.inj (of_decide_eq_true c1); omega
      obtain ⟨n, h1, h2, h3, h4⟩ := canon_read (g2 h0)
      refine ⟨_, rfl, .inl ⟨rfl, _, .inl (.inl hq')⟩, _, rfl, wd, n, rfl, h1, by omega, (by show 2 ≤ sizeLine; decide), fun t nt => ?_⟩
      have S5 := same_new nt (.tup [V.str "number", .int n])
      have hq5 := S5 _ _ hq'
      refine ⟨q, _, _, rfl, rfl, hq5, by rw [sizeLine_eq]; omega, us ++ [.ref t], fs ++ [.num n], _, _, _, rfl, same_put (sm.trans S5) qH, by rw [upd_ne pq]; exact S5 _ _ hp', upd_same, ((hfs.same S5).snoc (.num upd_same)).put hq5, by omega, ?_, ?_, ?_⟩
      · rw [backW_snoc, e2, ed, hb]
        show numS n :: _ = _
        rw [h2]; rfl
      · rw [List.length_append, List.length_singleton, e2, hl]; omega
      · intro z hz
        rcases List.mem_append.mp hz with h | h
        · exact hok z h
        · rw [List.mem_singleton.mp h]; exact h3
    · have h1 : pn wd = 1 := by have := V.int.inj (of_decide_eq_true c2); omega
      have hne : fs ≠ [] := fun z => by rw [z, List.length_nil] at hl; omega
      obtain ⟨us', t, fs', g, rfl, rfl, hg, hfs'⟩ := hfs.last hne
      refine ⟨_, rfl, .inl ⟨rfl, _, .inl (.inl hq')⟩, _, rfl, _, rfl, .inl ⟨rfl, _, .inl (.inl hq')⟩, q, _, .ref t, rfl, rfl, hq', (by rw [List.length_append, List.length_singleton, Nat.add_sub_cancel, List.getElem?_append_right (Nat.le_refl _), Nat.sub_self]; rfl), (by show 2 ≤ sizeLine; decide), fun t2 nt2 => ?_⟩
      rw [List.dropLast_concat] at nt2 ⊢
      have Sp := same_put (H := H) (D := q) (o := .lst us') sm qH
      have S5 := same_new nt2 (.tup [V.str wd, .ref t])
      have hq5 := S5 _ _ (show (upd H' q (.lst us')) q = some (.lst us') from upd_same)
      refine ⟨q, _, _, rfl, rfl, hq5, by rw [sizeLine_eq, hfs'.len]; rw [List.length_append, List.length_singleton] at hl; omega, us' ++ [.ref t2], fs' ++ [.one wd g], _, _, _, rfl, same_put (Sp.trans S5) qH, ?_, upd_same, (((hfs'.put hq').same S5).snoc (.one upd_same ((hg.put hq').same S5))).put hq5, by omega, ?_, ?_, ?_⟩
      · rw [upd_ne pq]
        exact S5 _ _ (by rw [upd_ne pq]; exact hp')
      · rw [backW_snoc] at hb ⊢
        rw [e2, ed, ← hb]; rfl
      · rw [List.length_append, List.length_singleton] at hl ⊢
        rw [e2]; omega
      · intro z hz
        rcases List.mem_append.mp hz with h | h
        · exact hok z (List.mem_append_left _ h)
        · rw [List.mem_singleton.mp h]; exact ⟨pn_one h1, hok g (List.mem_append_right _ (List.mem_singleton.mpr rfl))⟩
    · have h2 : pn wd = 2 := by
        have := pn_le wd
        have a1 : pn wd ≠ 0 := fun z => c1 (decide_eq_true (by rw [z]; rfl))
        have a2 : pn wd ≠ 1 := fun z => c2 (decide_eq_true (by rw [z]; rfl))
        omega
      have hne : fs ≠ [] := fun z => by rw [z, List.length_nil] at hl; omega
      obtain ⟨us1, t, fs1, g, rfl, rfl, hg, hfs1⟩ := hfs.last hne
      have hne1 : fs1 ≠ [] := fun z => by rw [z, List.nil_append, List.length_singleton] at hl; omega
      obtain ⟨us', t', fs', g', rfl, rfl, hg', hfs'⟩ := hfs1.last hne1
      refine ⟨_, rfl, .inl ⟨rfl, _, .inl (.inl hq')⟩, q, _, .ref t, rfl, rfl, hq', (by rw [List.length_append, List.length_singleton, Nat.add_sub_cancel, List.getElem?_append_right (Nat.le_refl _), Nat.sub_self]; rfl), ?_⟩
      rw [List.dropLast_concat]
      have hq1 : (upd H' q (.lst (us' ++ [.ref t']))) q = some (.lst (us' ++ [.ref t'])) := upd_same
      have Sp1 := same_put (H := H) (D := q) (o := .lst (us' ++ [.ref t'])) sm qH
      have A1 := hg.put (ys := us' ++ [.ref t']) hq'
      have A2 := hg'.put (ys := us' ++ [.ref t']) hq'
      have A3 := hfs'.put (ys := us' ++ [.ref t']) hq'
      have hp1 : (upd H' q (.lst (us' ++ [.ref t']))) p = some (.lst (ws.map V.str)) := by rw [upd_ne pq]; exact hp'
      generalize (upd H' q (.lst (us' ++ [.ref t']))) = H3 at hq1 Sp1 A1 A2 A3 hp1
      refine ⟨_, rfl, .inl ⟨rfl, _, .inl (.inl hq1)⟩, _, rfl, _, rfl, _, rfl, .inl ⟨rfl, _, .inl (.inl hq1)⟩, q, _, .ref t', rfl, rfl, hq1, (by rw [List.length_append, List.length_singleton, Nat.add_sub_cancel, List.getElem?_append_right (Nat.le_refl _), Nat.sub_self]; rfl), (by show 3 ≤ sizeLine; decide), fun t2 nt2 => ?_⟩
      rw [List.dropLast_concat] at nt2 ⊢
      have Sp := same_put (H := H) (D := q) (o := .lst us') Sp1 qH
      have S5 := same_new nt2 (.tup [V.str wd, .ref t, .ref t'])
      have hq5 := S5 _ _ (show (upd H3 q (.lst us')) q = some (.lst us') from upd_same)
      refine ⟨q, _, _, rfl, rfl, hq5, by rw [sizeLine_eq, hfs'.len]; rw [List.length_append, List.length_singleton, List.length_append, List.length_singleton] at hl; omega, us' ++ [.ref t2], fs' ++ [.two wd g g'], _, _, _, rfl, same_put (Sp.trans S5) qH, ?_, upd_same, (((A3.put hq1).same S5).snoc (.two upd_same ((A1.put hq1).same S5) ((A2.put hq1).same S5))).put hq5, by omega, ?_, ?_, ?_⟩
      · rw [upd_ne pq]
        exact S5 _ _ (by rw [upd_ne pq]; exact hp1)
      · rw [backW_snoc, backW_snoc] at hb
        rw [backW_snoc, e2, ed, ← hb]
        show wd :: (g.ws ++ g'.ws) ++ backW fs' = _
        rw [List.cons_append, List.append_assoc]
      · rw [List.length_append, List.length_singleton, List.length_append, List.length_singleton] at hl
        rw [List.length_append, List.length_singleton, e2]; omega
      · intro z hz
        rcases List.mem_append.mp hz with h | h
        · exact hok z (List.mem_append_left _ (List.mem_append_left _ h))
        · rw [List.mem_singleton.mp h]; exact ⟨pn_two h2, hok g (List.mem_append_right _ (List.mem_singleton.mpr rfl)), hok g' (List.mem_append_left _ (List.mem_append_right _ (List.mem_singleton.mpr rfl)))⟩
  · obtain ⟨us, fs, y4, y5, y6, rfl, sm, hp', hq', hfs, _, hb, hl, hok⟩ := hP
    rw [lws, Nat.sub_self] at hb hl
    have hl : fs.length = 1 := by rw [hl]; cases ws <;> rfl
    cases hfs with
    | nil => cases hl
    | @cons t g us' fs' hg hr' =>
      cases hr' with
      | cons _ _ => cases hl
      | nil =>
        refine ⟨_, rfl, q, _, _, _, rfl, rfl, SqL.of hq', atI_nat (j := 0) rfl, ?_⟩
        refine kN e _ t g sm hg ?_ (hok g List.mem_cons_self)
        have hb : g.ws ++ [] = ws.drop 0 := hb
        rw [List.append_nil] at hb
        exact hb
end
end KL

namespace KG
open PySem PySem.Spec PyProof.Rows L2
theorem FAt.inner {H : Hp} {t : Addr} {f : Fm} (h : FAt H t f) (o : f.ok) : (∃ n, f = .num n ∧ H t = some (.tup [.str "number", .int n])) ∨
    ∃ w us fs, H t = some (.tup (.str w :: us)) ∧ FsAt H us fs ∧ f.ws = w :: fs.flatMap Fm.ws ∧ (∀ g ∈ fs, g.ht < f.ht ∧ g.ok) ∧ us.length ≤ 2 ∧ 1 ≤ us.length ∧ w ≠ "number" := by
  have b1 : ∀ z ∈ ones, z ≠ "number" := by decide +kernel
  have b2 : ∀ z ∈ twos, z ≠ "number" := by decide +kernel
  cases h with
  | num e => exact .inl ⟨_, rfl, e⟩
  | @one t a w f e h1 =>
    refine .inr ⟨w, [.ref a], [f], e, .cons h1 .nil, ?_, fun g hg => ?_, (by show 1 ≤ 2; decide), (by show 1 ≤ 1; decide), b1 w o.1⟩
    · show w :: f.ws = w :: (f.ws ++ [])
      rw [List.append_nil]
    · rw [List.mem_singleton.mp hg]
      exact ⟨Nat.lt_succ_self _, o.2⟩
  | @two t a b w f g e h1 h2 =>
    refine .inr ⟨w, [.ref a, .ref b], [f, g], e, .cons h1 (.cons h2 .nil), ?_, fun g' hg => ?_, (by show 2 ≤ 2; decide), (by show 1 ≤ 2; decide), b2 w o.1⟩
    · show w :: (f.ws ++ g.ws) = w :: (f.ws ++ (g.ws ++ []))
      rw [List.append_nil]
    · rcases List.mem_cons.mp hg with rfl | hg
      · exact ⟨by show g'.ht < max g'.ht g.ht + 1; omega, o.2.1⟩
      · rw [List.mem_singleton.mp hg]
        exact ⟨by show g.ht < max f.ht g.ht + 1; omega, o.2.2⟩
theorem FsAt.get {H : Hp} : ∀ {us : List V} {fs : List Fm} {i : Nat} {x : V}, FsAt H us fs → us[i]? = some x → ∃ t f, x = .ref t ∧ fs[i]? = some f ∧ FAt H t f
  | _, _, i, x, .nil, h => by simp at h
  | _, _, 0, x, .cons (t := t) (f := f) e _, h => ⟨t, f, (Option.some.inj h).symm, rfl, e⟩
  | _, _, i + 1, x, .cons _ r, h => FsAt.get (i := i) r h
end KG
namespace KL
open PySem PySem.Spec PyProof.Rows L2 KG
abbrev s_law_formula : Stmt := topS 14
abbrev N_law_formula : List Str := ["state", "size", "most", "kind", "first", "word"]
theorem sc_law_formula : FnScope N_law_formula ["state", "size", "most"] (defScope s_law_formula) := ⟨rfl, rfl, rfl, by decide +kernel, rfl, by decide +kernel, by decide +kernel⟩
abbrev s_law_words : Stmt := topS 15
abbrev N_law_words : List Str := ["formula", "words", "inner"]
theorem sc_law_words : FnScope N_law_words ["formula"] (defScope s_law_words) := ⟨rfl, rfl, rfl, by decide +kernel, rfl, by decide +kernel, by decide +kernel⟩
section
variable {P : Program} {w : World} {K : PySem.W.Frag} {mg : Str → Option Value} {base : Heap}
def sp_law_formula (K : PySem.W.Frag) (d : Nat) : Sp := fun vs H Q _ => ∃ (p a : Addr) (ns : List Int) (sz : Nat) (m : Int), vs = [.ref p, .int (sz : Int), .int m] ∧ StX H p a ns ∧ SqO K H p a (ns.map V.int) ∧ sz < d ∧ sz ≤ 1000 ∧ 0 ≤ m ∧ m < 10 ^ 30 ∧
  ∀ H' t f, StX H' p a ns → But p H H' → FAt H' t f → f.ok → f.ws.length ≤ max 1 sz → Q (.ref t) H'
theorem ok_law_formula {f : Addr} {fd : FuncData} {k : Nat} (F : Fun K "_law_formula" "_law_formula" s_law_formula f fd) (M : Names mg) (G_law_take : Cal P w K mg base k "_law_take" ["state", "many"] (sp_law_take K)) (bF : Binds K fd ["state", "size", "most"] []) (mF : mg "_law_formula" = some (.ref f)) (kF : PySem.W.keepIn K (.ref f) = true) :
    ∀ d, FnOk P w K mg base CX0 (k + d) f fd ["state", "size", "most"] (sp_law_formula K d)
  | 0 => ⟨fun vs H Q E ⟨_, _, _, _, _, _, _, _, h, _⟩ => absurd h (Nat.not_lt_zero _), fun _ _ _ _ _ _ _ _ _ _ _ _ _ ⟨_, _, _, _, _, _, _, _, h, _⟩ => absurd h (Nat.not_lt_zero _)⟩
  | d + 1 => by
    have G_law_formula : Cal P w K mg base (k + d) "_law_formula" ["state", "size", "most"] (sp_law_formula K d) := ⟨f, fd, ok_law_formula F M G_law_take bF mF kF d, bF, mF, kF⟩
    refine F.ok sc_law_formula (fun vs H Q E h => ?_) (fun cdv A outer s H vs Q E hr0 h => ?_)
    · obtain ⟨p, a, ns, sz, m, rfl, _⟩ := h
      rfl
    obtain ⟨p, a, ns, sz, m, rfl, hX, hS, hsz, hsz2, m0, m1, fin⟩ := h
    have hr : Room k _ := hr0.mono (Nat.le_add_right k d)
    refine ⟨_, (pss_cons (ps_if (pt_cmpR op_lt (pv 1) pe_int (nomark _))
      (pss_one (ps_ret (pe_tup (pa_cons pe_str (pa_cons (pe_op op_sub (pe_call G_law_take.ok hr (by rfl) G_law_take.m G_law_take.kp G_law_take.b .nil pass0 (pa_cons (pv 0) (pa_cons (pe_op op_add (pe_op op_mul pe_int (pv 2)) pe_int) pa_nil))) (pv 2)) pa_nil)))))
      pss_nil)
    (pss_cons (ps_set (i := 3) sc_law_formula.nd rfl (.inl rfl) (pe_call G_law_take.ok hr (by rfl) G_law_take.m G_law_take.kp G_law_take.b .nil pass0 (pa_cons (pv 0) (pa_cons pe_int pa_nil))))
    (pss_cons (ps_if (pt_cmpR op_lt (pv 3) pe_int (nomark _))
      (pss_one (ps_ret (pe_tup (pa_cons pe_str (pa_cons (pe_call G_law_formula.ok hr0 (by rfl) G_law_formula.m G_law_formula.kp G_law_formula.b .nil pass0 (pa_cons (pv 0) (pa_cons (pe_op op_sub (pv 1) pe_int) (pa_cons (pv 2) pa_nil)))) pa_nil)))))
      pss_nil)
    (pss_cons (ps_if (pt_cmpR op_lt (pv 3) pe_int (nomark _))
      (pss_one (ps_ret (pe_tup (pa_cons pe_str (pa_cons (pe_call G_law_formula.ok hr0 (by rfl) G_law_formula.m G_law_formula.kp G_law_formula.b .nil pass0 (pa_cons (pv 0) (pa_cons (pe_op op_sub (pv 1) pe_int) (pa_cons (pv 2) pa_nil)))) pa_nil)))))
      pss_nil)
    (pss_cons (ps_if (pt_cmpR op_lt (pv 1) pe_int (nomark _))
      (pss_one (ps_ret (pe_tup (pa_cons pe_str (pa_cons (pe_op op_sub (pe_call G_law_take.ok hr (by rfl) G_law_take.m G_law_take.kp G_law_take.b .nil pass0 (pa_cons (pv 0) (pa_cons (pe_op op_add (pe_op op_mul pe_int (pv 2)) pe_int) pa_nil))) (pv 2)) pa_nil)))))
      pss_nil)
    (pss_cons (ps_set (i := 4) sc_law_formula.nd rfl (.inl rfl) (pe_op op_add pe_int (pe_call G_law_take.ok hr (by rfl) G_law_take.m G_law_take.kp G_law_take.b .nil pass0 (pa_cons (pv 0) (pa_cons (pe_op op_sub (pv 1) pe_int) pa_nil)))))
    (pss_cons (ps_set (i := 5) sc_law_formula.nd rfl (.inl rfl) (pe_ix ix_list (pe_lst (pa_cons pe_str (pa_cons pe_str (pa_cons pe_str (pa_cons pe_str pa_nil))))) (pe_op op_sub (pe_op op_fdiv (pv 3) pe_int) pe_int) (fun _ _ => rfl)))
    (pss_one (ps_ret (pe_tup (pa_cons (pv 5) (pa_cons (pe_call G_law_formula.ok hr0 (by rfl) G_law_formula.m G_law_formula.kp G_law_formula.b .nil pass0 (pa_cons (pv 0) (pa_cons (pv 4) (pa_cons (pv 2) pa_nil)))) (pa_cons (pe_call G_law_formula.ok hr0 (by rfl) G_law_formula.m G_law_formula.kp G_law_formula.b .nil pass0 (pa_cons (pv 0) (pa_cons (pe_op op_sub (pe_op op_sub (pv 1) pe_int) (pv 4)) (pa_cons (pv 2) pa_nil)))) pa_nil))))))))))))), ?_⟩
    have lgN : ∀ n : Int, n.natAbs < 2 ^ 110 → n.natAbs.log2 < 9000 := fun n h => log_small (n := 110) h (by decide) (by decide)
    have mb : m < 1000000000000000000000000000000 := m1
    have e30 : (10 ^ 30 : Nat) = 1000000000000000000000000000000 := by decide +kernel
    -- a number
    refine ⟨_, rfl, _, _, rfl, rfl, _, rfl, ite2 (fun c0 => ?_) (fun c0 => ?_)⟩
    · refine ⟨_, rfl, _, rfl, _, _, rfl, rfl, .inl ⟨by decide, by decide⟩, _, _, rfl, rfl, p, a, ns, _, rfl, hX, hS, by omega, lgN _ (by omega), fun d1 H1 d10 d11 X1 b1 => ?_⟩
      refine ⟨_, rfl, _, _, rfl, rfl, (by show 2 ≤ sizeLine; decide), fun t nt => ?_⟩
      have S1 := same_new nt (.tup [V.str "number", .int (d1 - m)])
      exact fin _ t (.num (d1 - m)) (X1.same S1) (b1.trans (.of S1)) (.num upd_same) (by show (d1 - m).natAbs < 10 ^ 30; rw [e30]; omega) (by show 1 ≤ _; omega)
    have hs2 : 2 ≤ sz := by have := of_decide_eq_false (Bool.eq_false_iff.mpr c0); omega
    refine ⟨_, rfl, p, a, ns, _, rfl, hX, hS, by decide, lgN _ (by decide), fun d1 H1 d10 d11 X1 b1 => ?_⟩
    have hS1 := hS.but b1
    have e1 : (sz : Int) - 1 = ((sz - 1 : Nat) : Int) := by omega
    refine ⟨_, rfl, _, _, rfl, rfl, _, rfl, ite2 (fun c1 => ?_) (fun c1 => ⟨_, rfl, _, _, rfl, rfl, _, rfl, ite2 (fun c2 => ?_) (fun c2 => ?_)⟩)⟩
    · refine ⟨_, rfl, _, rfl, _, _, rfl, rfl, _, rfl, p, a, ns, sz - 1, m, by rw [← e1]; rfl, X1, hS1, by omega, by omega, m0, m1, fun H2 t f X2 b2 hf ho hl => ⟨(by show 2 ≤ sizeLine; decide), fun t2 nt2 => ?_⟩⟩
      have S2 := same_new nt2 (.tup [V.str "neg", .ref t])
      exact fin _ t2 (.one "neg" f) (X2.same S2) ((b1.trans b2).trans (.of S2)) (.one upd_same (hf.same S2)) ⟨by decide +kernel, ho⟩ (by show f.ws.length + 1 ≤ _; omega)
    · refine ⟨_, rfl, _, rfl, _, _, rfl, rfl, _, rfl, p, a, ns, sz - 1, m, by rw [← e1]; rfl, X1, hS1, by omega, by omega, m0, m1, fun H2 t f X2 b2 hf ho hl => ⟨(by show 2 ≤ sizeLine; decide), fun t2 nt2 => ?_⟩⟩
      have S2 := same_new nt2 (.tup [V.str "root", .ref t])
      exact fin _ t2 (.one "root" f) (X2.same S2) ((b1.trans b2).trans (.of S2)) (.one upd_same (hf.same S2)) ⟨by decide +kernel, ho⟩ (by show f.ws.length + 1 ≤ _; omega)
    have hk : 4 ≤ d1 := by have := of_decide_eq_false (Bool.eq_false_iff.mpr c2); omega
    refine ⟨_, rfl, _, _, rfl, rfl, _, rfl, ite2 (fun c3 => ?_) (fun c3 => ?_)⟩
    · refine ⟨_, rfl, _, rfl, _, _, rfl, rfl, .inl ⟨by decide, by decide⟩, _, _, rfl, rfl, p, a, ns, _, rfl, X1, hS1, by omega, lgN _ (by omega), fun d2 H2 d20 d21 X2 b2 => ?_⟩
      refine ⟨_, rfl, _, _, rfl, rfl, (by show 2 ≤ sizeLine; decide), fun t nt => ?_⟩
      have S1 := same_new nt (.tup [V.str "number", .int (d2 - m)])
      exact fin _ t (.num (d2 - m)) (X2.same S1) ((b1.trans b2).trans (.of S1)) (.num upd_same) (by show (d2 - m).natAbs < 10 ^ 30; rw [e30]; omega) (by show 1 ≤ _; omega)
    have hs3 : 3 ≤ sz := by have := of_decide_eq_false (Bool.eq_false_iff.mpr c3); omega
    refine ⟨_, rfl, _, rfl, _, _, rfl, rfl, p, a, ns, _, rfl, X1, hS1, by omega, lgN _ (by omega), fun d2 H2 d20 d21 X2 b2 => ⟨_, _, rfl, rfl, ?_⟩⟩
    have hS2 := hS1.but b2
    obtain ⟨n1, en1⟩ : ∃ n1 : Nat, 1 + d2 = (n1 : Int) := ⟨(1 + d2).toNat, by omega⟩
    rw [show (fun i j => V.int (i + j)) (1 : Int) d2 = V.int (n1 : Int) from congrArg V.int en1]
    have h1 : 1 ≤ n1 := by omega
    have h2 : n1 ≤ sz - 2 := by omega
    -- word
    refine ⟨(by show 4 ≤ sizeLine; decide), fun tw ntw => ?_⟩
    have Sw := same_new ntw (.lst [V.str "add", .str "sub", .str "mul", .str "div"])
    have kd : d1 / 2 - 2 = 0 ∨ d1 / 2 - 2 = 1 ∨ d1 / 2 - 2 = 2 ∨ d1 / 2 - 2 = 3 := by omega
    obtain ⟨wd, hwd, htw⟩ : ∃ wd : Str, atI [V.str "add", .str "sub", .str "mul", .str "div"] (d1 / 2 - 2) = some (.str wd) ∧ wd ∈ twos := by
      rcases kd with e | e | e | e <;> rw [e]
      · exact ⟨"add", rfl, by decide +kernel⟩
      · exact ⟨"sub", rfl, by decide +kernel⟩
      · exact ⟨"mul", rfl, by decide +kernel⟩
      · exact ⟨"div", rfl, by decide +kernel⟩
    refine ⟨_, rfl, _, _, rfl, rfl, ⟨by decide, by decide⟩, _, _, rfl, rfl, tw, _, _, _, rfl, rfl, SqL.of upd_same, hwd, ?_⟩
    have X2w := X2.same Sw
    have hS2w := hS2.but (.of Sw)
    refine ⟨_, rfl, _, rfl, _, rfl, _, rfl, p, a, ns, n1, m, rfl, X2w, hS2w, by omega, by omega, m0, m1, fun H3 t1 f1 X3 b3 hf1 ho1 hl1 => ?_⟩
    have e3 : (sz : Int) - 1 - (n1 : Int) = ((sz - 1 - n1 : Nat) : Int) := by omega
    refine ⟨_, rfl, _, rfl, _, _, rfl, rfl, _, rfl, _, _, rfl, rfl, _, rfl, p, a, ns, sz - 1 - n1, m, by rw [← e3]; rfl, X3, hS2w.but b3, by omega, by omega, m0, m1, fun H4 t2 f2 X4 b4 hf2 ho2 hl2 => ⟨(by show 3 ≤ sizeLine; decide), fun t3 nt3 => ?_⟩⟩
    have S3 := same_new nt3 (.tup [V.str wd, .ref t1, .ref t2])
    exact fin _ t3 (.two wd f1 f2) (X4.same S3) ((((b1.trans b2).trans (.of Sw)).trans (b3.trans b4)).trans (.of S3)) (.two upd_same ((hf1.but X3 b4).same S3) (hf2.same S3)) ⟨htw, ho1, ho2⟩ (by show (f1.ws ++ f2.ws).length + 1 ≤ _; rw [List.length_append]; omega)
def sp_law_words (K : PySem.W.Frag) (d : Nat) : Sp := fun vs H Q _ => ∃ (t : Addr) (f : Fm), vs = [.ref t] ∧ FAt H t f ∧ f.ht < d ∧ f.ok ∧ f.ws.length ≤ 1000000 ∧ ∀ H' q, Same H H' → H q = none → H' q = some (.lst (f.ws.map V.str)) → Q (.ref q) H'
theorem ok_law_words {f : Addr} {fd : FuncData} {k : Nat} (F : Fun K "_law_words" "_law_words" s_law_words f fd) (M : Names mg) (bF : Binds K fd ["formula"] []) (mF : mg "_law_words" = some (.ref f)) (kF : PySem.W.keepIn K (.ref f) = true) :
    ∀ d, FnOk P w K mg base CX0 (k + d) f fd ["formula"] (sp_law_words K d)
  | 0 => ⟨fun vs H Q E ⟨_, _, _, _, h, _⟩ => absurd h (Nat.not_lt_zero _), fun _ _ _ _ _ _ _ _ _ _ _ _ _ ⟨_, _, _, _, h, _⟩ => absurd h (Nat.not_lt_zero _)⟩
  | d + 1 => by
    have G_law_words : Cal P w K mg base (k + d) "_law_words" ["formula"] (sp_law_words K d) := ⟨f, fd, ok_law_words F M bF mF kF d, bF, mF, kF⟩
    refine F.ok sc_law_words (fun vs H Q E h => ?_) (fun cdv A outer s H vs Q E hr h => ?_)
    · obtain ⟨t, g, rfl, _⟩ := h
      rfl
    obtain ⟨t, g, rfl, hg, hd, ho, hlen, fin⟩ := h
    refine ⟨_, (pss_cons (ps_if (pt_cmpR op_eq (pe_ix ix_tup (pv 0) pe_int (fun _ _ => rfl)) pe_str (nomark _))
      (pss_one (ps_ret (pe_lst (pa_cons (pe_callTy call_str_int (by rfl) M.str (by decide +kernel) (pa_cons (pe_ix ix_tup (pv 0) pe_int (fun _ _ => rfl)) pa_nil)) pa_nil))))
      pss_nil)
    (pss_cons (ps_set (i := 1) sc_law_words.nd rfl (.inl rfl) (pe_lst (pa_cons (pe_ix ix_tup (pv 0) pe_int (fun _ _ => rfl)) pa_nil)))
    (pss_cons (ps_for PassesOwn.never rfl (pi_tup (pe_slice sl_tup (pv 0) (po_some pe_int) po_none)) (pg_name (i := 2) sc_law_words.nd rfl (.inl rfl))
      (pss_one (ps_set (i := 1) sc_law_words.nd rfl (.inl rfl) (pe_op op_cat (pv 1) (pe_call G_law_words.ok hr (by rfl) G_law_words.m G_law_words.kp G_law_words.b .nil pass0 (pa_cons (pv 2) pa_nil))))))
    (pss_one (ps_ret (pv 1)))))), ?_⟩
    rcases hg.inner ho with ⟨n, rfl, et⟩ | ⟨wd, us, fs, et, hfs, ews, hin, l2, l1, hnum⟩
    · refine ⟨_, rfl, t, _, _, _, rfl, rfl, SqT.of et, atI_nat (j := 0) rfl, rfl, _, rfl, iteT' (decide_eq_true rfl) ?_⟩
      have sl : n.natAbs.log2 < 1920 := log_small (n := 100) (Nat.lt_of_lt_of_le ho (by decide +kernel)) (by decide) (by decide)
      exact ⟨_, rfl, t, _, _, _, rfl, rfl, SqT.of et, atI_nat (j := 1) rfl, _, rfl, sl, (by show 1 ≤ sizeLine; decide), fun q nq => fin _ q (same_new nq _) nq upd_same⟩
    · refine ⟨_, rfl, t, _, _, _, rfl, rfl, SqT.of et, atI_nat (j := 0) rfl, rfl, _, rfl, iteF' (decide_eq_false fun z => hnum (V.str.inj z)) ?_⟩
      refine ⟨_, rfl, t, _, _, _, rfl, rfl, SqT.of et, atI_nat (j := 0) rfl, (by show 1 ≤ sizeLine; decide), fun q nq => ?_⟩
      have S1 := same_new nq (.lst [V.str wd])
      refine ⟨_, rfl, _, rfl, t, _, rfl, SqT.of (S1 _ _ et), not_whole (i := 1) (by decide) (by rw [List.length_cons]; omega), fun c nc => ?_⟩
      have S2 := same_new nc (.tup (cutV (V.str wd :: us) (some 1) none))
      have ec : (upd (upd H q (.lst [V.str wd])) c (.tup (cutV (V.str wd :: us) (some 1) none))) c = some (.tup us) := by
        rw [upd_same, show cutV (V.str wd :: us) (some 1) none = (V.str wd :: us).drop 1 from cut_from _ 1 (by rw [List.length_cons]; omega)]; rfl
      have hq2 := S2 _ _ (show (upd H q (.lst [V.str wd])) q = some (.lst [V.str wd]) from upd_same)
      have S12 := S1.trans S2
      have fl : ∀ i, ((fs.take i).flatMap Fm.ws).length ≤ (fs.flatMap Fm.ws).length := fun i => by
        have e : fs.flatMap Fm.ws = (fs.take i).flatMap Fm.ws ++ (fs.drop i).flatMap Fm.ws := by rw [← List.flatMap_append, List.take_append_drop]
        rw [e, List.length_append]; exact Nat.le_add_right _ _
      have lall : (fs.flatMap Fm.ws).length ≤ 1000000 := by rw [ews, List.length_cons] at hlen; omega
      refine ⟨c, rfl, ⟨_, SqT.of ec⟩, for_tup (xs := us) (fun i σ H' => ∃ (y2 : Option V) (q' : Addr), σ = [some (.ref t), some (.ref q'), y2] ∧ Same H H' ∧ H' c = some (.tup us) ∧ H q' = none ∧ H' q' = some (.lst ((wd :: (fs.take i).flatMap Fm.ws).map V.str)))
        ⟨none, q, rfl, S12, ec, nq, hq2⟩ (fun i σ H' _ hP => by obtain ⟨_, _, _, _, h, _⟩ := hP; exact SqT.of h) (fun i x σ H' hx hP => ?_) (fun σ H' hP => ?_)⟩
      · obtain ⟨y2, q', rfl, sm, hc, nq', hq'⟩ := hP
        obtain ⟨tx, gx, rfl, hgx, hfx⟩ := (hfs.same sm).get hx
        have mg := List.mem_of_getElem? hgx
        obtain ⟨hlt, hok⟩ := hin gx mg
        have lgx : gx.ws.length ≤ (fs.flatMap Fm.ws).length := by
          have e2 := fl (i + 1)
          rw [List.take_add_one, hgx, List.flatMap_append, List.length_append] at e2
          have e3 : ((some gx).toList.flatMap Fm.ws).length = gx.ws.length := by simp
          omega
        refine ⟨_, rfl, _, rfl, tx, gx, rfl, hfx, by omega, hok, by omega, fun H5 q5 s5 nq5 hq5 => ?_⟩
        have hq'5 := s5 _ _ hq'
        refine ⟨q', q5, _, _, rfl, rfl, hq'5, hq5, ?_, fun q6 nq6 => ?_⟩
        · rw [List.length_map, List.length_map, List.length_cons, sizeLine_eq]
          have := fl i
          omega
        · have S6 := same_new nq6 (.lst ((wd :: (fs.take i).flatMap Fm.ws).map V.str ++ gx.ws.map V.str))
          refine ⟨_, q6, rfl, sm.trans (s5.trans S6), (s5.trans S6) _ _ hc, (sm.trans s5).free nq6, ?_⟩
          rw [upd_same, List.take_add_one, hgx, List.flatMap_append, ← List.map_append]
          congr 3
          simp
      · obtain ⟨y2, q', rfl, sm, hc, nq', hq'⟩ := hP
        refine ⟨_, rfl, fin _ q' sm nq' ?_⟩
        rw [hq', ews, hfs.len, List.take_length]
end
end KL

namespace KG
open PySem PySem.Spec PyProof.Rows L2
theorem back_of {x : V} {us : List V} (h1 : 1 ≤ us.length) (h2 : us.length ≤ 2) : Back (x :: us) us.reverse := by
  match us, h1, h2 with
  | [a], _, _ => exact .two x a
  | [a, b], _, _ => exact .three x a b
theorem FsAt.app {H : Hp} {us vs : List V} {fs gs : List Fm} (h : FsAt H us fs) (k : FsAt H vs gs) : FsAt H (us ++ vs) (fs ++ gs) := by
  induction h with
  | nil => exact k
  | cons e _ ih => exact .cons e ih
theorem FsAt.rev {H : Hp} {us : List V} {fs : List Fm} (h : FsAt H us fs) : FsAt H us.reverse fs.reverse := by
  induction h with
  | nil => exact .nil
  | cons e _ ih =>
    rw [List.reverse_cons, List.reverse_cons]
    exact ih.snoc e
theorem backW_rev (gs fs : List Fm) : backW (gs ++ fs.reverse) = fs.flatMap Fm.ws ++ backW gs := by
  unfold backW
  rw [List.reverse_append, List.reverse_reverse, List.flatMap_append]
theorem words_sum {ws : List Str} (h : ∀ w ∈ ws, w.length ≤ 31) : (ws.map fun w => w.length).sum + ws.length * 1 ≤ 32 * ws.length := by
  induction ws with
  | nil => exact Nat.le_refl _
  | cons x r ih =>
    have a := h x List.mem_cons_self
    have b := ih fun w hw => h w (List.mem_cons_of_mem _ hw)
    rw [List.map_cons, List.sum_cons, List.length_cons]
    omega
end KG
namespace KL
open PySem PySem.Spec PyProof.Rows L2 KG
abbrev swrite_formula : Stmt := topS 10
abbrev Nwrite_formula : List Str := ["formula", "words", "waiting", "part"]
theorem scwrite_formula : FnScope Nwrite_formula ["formula"] (defScope swrite_formula) := ⟨rfl, rfl, rfl, by decide +kernel, rfl, by decide +kernel, by decide +kernel⟩
section
variable {P : Program} {w : World} {K : PySem.W.Frag} {mg : Str → Option Value} {base : Heap}
def sp_write_formula : Sp := fun vs H Q _ => ∃ (t : Addr) (f : Fm), vs = [.ref t] ∧ FAt H t f ∧ f.ok ∧ f.ws.length ≤ 10000 ∧ ∀ H', Same H H' → Q (.str (Txt.join " " f.ws)) H'
theorem ok_write_formula {f : Addr} {fd : FuncData} {k : Nat} (F : Fun K "write_formula" "write_formula" swrite_formula f fd) (M : Names mg) : FnOk P w K mg base CX0 (k + 1) f fd ["formula"] sp_write_formula := by
  refine F.ok scwrite_formula (fun vs H Q E h => ?_) (fun cdv A outer s H vs Q E hr h => ?_)
  · obtain ⟨t, g, rfl, _⟩ := h
    rfl
  obtain ⟨t, g, rfl, hg, ho, hlen, fin⟩ := h
  refine ⟨_, (pss_cons (ps_set (i := 1) scwrite_formula.nd rfl (.inl rfl) (pe_lst pa_nil))
    (pss_cons (ps_set (i := 2) scwrite_formula.nd rfl (.inl rfl) (pe_lst (pa_cons (pv 0) pa_nil)))
    (pss_cons (ps_while PassesOwn.never (pt_truth (pv 2) (by intro _; rfl))
      (pss_cons (ps_set (i := 3) scwrite_formula.nd rfl (.inl rfl) (pe_bm0 PySem.F.plainAttrs_list PySem.F.slot_list_pop PySem.F.type_list_pop mt_pop (pv 2)))
      (pss_one (ps_if (pt_cmpR op_eq (pe_ix ix_tup (pv 3) pe_int (fun _ _ => rfl)) pe_str (nomark _))
        (pss_one (ps_expr (pe_bm PySem.F.plainAttrs_list PySem.F.slot_list_append PySem.F.type_list_append mt_append (pv 1) (pa_cons (pe_callTy call_str_int (by rfl) M.str (by decide +kernel) (pa_cons (pe_ix ix_tup (pv 3) pe_int (fun _ _ => rfl)) pa_nil)) pa_nil))))
        (pss_cons (ps_expr (pe_bm PySem.F.plainAttrs_list PySem.F.slot_list_append PySem.F.type_list_append mt_append (pv 1) (pa_cons (pe_ix ix_tup (pv 3) pe_int (fun _ _ => rfl)) pa_nil)))
        (pss_one (ps_expr (pe_bm PySem.F.plainAttrs_list PySem.F.slot_list_extend PySem.F.type_list_extend mt_extT (pv 2) (pa_cons (pe_backT (pv 3)) pa_nil)))))))))
    (pss_one (ps_ret (pe_join pe_str (pv 1))))))), ?_⟩
  refine ⟨Nat.zero_le _, fun p np => ?_⟩
  have S1 := same_new np (.lst [])
  have hp1 : (upd H p (.lst [])) p = some (.lst []) := upd_same
  have hg1 := hg.same S1
  generalize upd H p (.lst []) = H1 at S1 hp1 hg1
  refine ⟨_, rfl, (by show 1 ≤ sizeLine; decide), fun q nq => ?_⟩
  have S2 := same_new nq (.lst [V.ref t])
  have pq : p ≠ q := ne_of_none hp1 nq
  have qH : H q = none := S1.free nq
  have hp2 := S2 _ _ hp1
  have hq2 : (upd H1 q (.lst [V.ref t])) q = some (.lst [V.ref t]) := upd_same
  have hg2 := hg1.same S2
  have S12 := S1.trans S2
  generalize upd H1 q (.lst [V.ref t]) = H2 at S12 hp2 hq2 hg2
  have sml : ∀ n, n ≤ 20000 → n < sizeLine := fun n h => by rw [sizeLine_eq]; omega
  refine ⟨fun m σ H' => ∃ (y3 : Option V) (ws : List Str) (us : List V) (gs : List Fm), σ = [some (.ref t), some (.ref p), some (.ref q), y3] ∧ Same H H' ∧ H' p = some (.lst (ws.map V.str)) ∧ H' q = some (.lst us) ∧ FsAt H' us gs ∧ (∀ z ∈ gs, z.ok) ∧ ws ++ backW gs = g.ws ∧ m = (backW gs).length,
    ⟨_, none, [], [.ref t], [g], rfl, S12, hp2, hq2, .cons hg2 .nil, fun z hz => by rw [List.mem_singleton.mp hz]; exact ho, by show g.ws ++ [] = _; rw [List.append_nil], rfl⟩, fun m σ H' hW => ?_⟩
  obtain ⟨y3, ws, us, gs, rfl, sm, hp', hq', hgs, hok, hb, rfl⟩ := hW
  have lus := hgs.len
  have lb : ws.length + (backW gs).length ≤ 10000 := by rw [← List.length_append, hb]; exact hlen
  have lgs : gs.length ≤ (backW gs).length := by
    clear hb hok hgs lus lb
    unfold backW
    rw [← List.length_reverse]
    induction gs.reverse with
    | nil => exact Nat.le_refl _
    | cons z r ih =>
      rw [List.flatMap_cons, List.length_append, List.length_cons]
      have : 1 ≤ z.ws.length := List.length_pos_iff.mpr (ws_ne z)
      omega
  refine ⟨_, rfl, (!us.isEmpty), .inl ⟨_, SqL.of hq', rfl⟩, ite2 (fun c => ?_) (fun c => ?_)⟩
  · have hne : gs ≠ [] := fun z => by
      rw [z] at lus
      rw [List.eq_nil_of_length_eq_zero lus] at c; cases c
    obtain ⟨us1, t1, gs1, g1, rfl, rfl, hg1, hgs1⟩ := hgs.last hne
    have ok1 := hok g1 (List.mem_append_right _ (List.mem_singleton.mpr rfl))
    have okr : ∀ z ∈ gs1, z.ok := fun z hz => hok z (List.mem_append_left _ hz)
    rw [backW_snoc] at hb lb
    rw [List.length_append] at lb
    rw [backW_snoc]
    rw [backW_snoc, List.length_append, List.length_append, List.length_singleton] at lgs
    refine ⟨fun σ' H1 => ∃ (y3 : Option V) (ws : List Str) (us : List V) (gs : List Fm), σ' = [some (.ref t), some (.ref p), some (.ref q), y3] ∧ Same H H1 ∧ H1 p = some (.lst (ws.map V.str)) ∧ H1 q = some (.lst us) ∧ FsAt H1 us gs ∧ (∀ z ∈ gs, z.ok) ∧ ws ++ backW gs = g.ws ∧ (backW gs).length < (g1.ws ++ backW gs1).length, fun σ' H1 hN => ?_, ?_⟩
    · obtain ⟨y3, ws, us, gs, h1, h2, h3, h4, h5, h6, h7, h8⟩ := hN
      exact ⟨_, h8, y3, ws, us, gs, h1, h2, h3, h4, h5, h6, h7, rfl⟩
    refine ⟨_, rfl, .inl ⟨rfl, _, .inl (.inl hq')⟩, q, _, .ref t1, rfl, rfl, hq', (by rw [List.length_append, List.length_singleton, Nat.add_sub_cancel, List.getElem?_append_right (Nat.le_refl _), Nat.sub_self]; rfl), ?_⟩
    rw [List.dropLast_concat]
    have Sp := same_put (H := H) (D := q) (o := .lst us1) sm qH
    have A1 := hg1.put (ys := us1) hq'
    have A2 := hgs1.put (ys := us1) hq'
    have hq3 : (upd H' q (.lst us1)) q = some (.lst us1) := upd_same
    have hp3 : (upd H' q (.lst us1)) p = some (.lst (ws.map V.str)) := by rw [upd_ne pq]; exact hp'
    generalize (upd H' q (.lst us1)) = H3 at Sp A1 A2 hq3 hp3
    have qp : q ≠ p := fun z => pq z.symm
    rcases A1.inner ok1 with ⟨n, rfl, et⟩ | ⟨wd, vs, fs, et, hfs, ews, hin, l2, l1, hnum⟩
    · refine ⟨_, rfl, t1, _, _, _, rfl, rfl, SqT.of et, atI_nat (j := 0) rfl, rfl, _, rfl, iteT' (decide_eq_true rfl) ?_⟩
      have sl : n.natAbs.log2 < 1920 := log_small (n := 100) (Nat.lt_of_lt_of_le ok1 (by decide +kernel)) (by decide) (by decide)
      refine ⟨_, rfl, .inl ⟨rfl, _, .inl (.inl hp3)⟩, _, rfl, t1, _, _, _, rfl, rfl, SqT.of et, atI_nat (j := 1) rfl, _, rfl, sl, p, _, _, rfl, rfl, hp3, sml _ (by rw [List.length_map]; omega), ?_⟩
      refine ⟨_, ws ++ [numS n], us1, gs1, rfl, same_put (H := H) (D := p) (o := .lst (ws.map V.str ++ [V.str (toString n)])) Sp np, ?_, ?_, A2.put hp3, okr, ?_, ?_⟩
      · rw [upd_same, List.map_append]; rfl
      · rw [upd_ne qp]; exact hq3
      · rw [← hb, List.append_assoc]; rfl
      · rw [List.length_append]
        show _ < 1 + _
        omega
    · refine ⟨_, rfl, t1, _, _, _, rfl, rfl, SqT.of et, atI_nat (j := 0) rfl, rfl, _, rfl, iteF' (decide_eq_false fun z => hnum (V.str.inj z)) ?_⟩
      refine ⟨_, rfl, .inl ⟨rfl, _, .inl (.inl hp3)⟩, _, rfl, t1, _, _, _, rfl, rfl, SqT.of et, atI_nat (j := 0) rfl, p, _, _, rfl, rfl, hp3, sml _ (by rw [List.length_map]; omega), ?_⟩
      have Sp2 := same_put (H := H) (D := p) (o := .lst (ws.map V.str ++ [V.str wd])) Sp np
      have hp4 : (upd H3 p (.lst (ws.map V.str ++ [V.str wd]))) p = some (.lst ((ws ++ [wd]).map V.str)) := by rw [upd_same, List.map_append]; rfl
      have hq4 : (upd H3 p (.lst (ws.map V.str ++ [V.str wd]))) q = some (.lst us1) := by rw [upd_ne qp]; exact hq3
      have B2 := A2.put (ys := ws.map V.str ++ [V.str wd]) hp3
      have B3 := hfs.put (ys := ws.map V.str ++ [V.str wd]) hp3
      have et4 : (upd H3 p (.lst (ws.map V.str ++ [V.str wd]))) t1 = some (.tup (.str wd :: vs)) := by
        rw [upd_ne (ne_of et hp3 (by intro z; cases z))]; exact et
      generalize (upd H3 p (.lst (ws.map V.str ++ [V.str wd]))) = H4 at Sp2 hp4 hq4 B2 B3 et4
      refine ⟨_, rfl, .inl ⟨rfl, _, .inl (.inl hq4)⟩, _, rfl, t1, _, _, rfl, SqT.of et4, back_of l1 l2, fun c nc => ?_⟩
      have S5 := same_new nc (.tup vs.reverse)
      have hq5 := S5 _ _ hq4
      have hp5 := S5 _ _ hp4
      refine ⟨q, c, us1, vs.reverse, rfl, rfl, hq5, SqT.of upd_same, Nat.le_of_lt (sml _ (by rw [List.length_reverse]; have := hgs1.len; omega)), ?_⟩
      refine ⟨_, ws ++ [wd], us1 ++ vs.reverse, gs1 ++ fs.reverse, rfl, same_put (Sp2.trans S5) qH, ?_, upd_same, (((B2.same S5).app (B3.same S5).rev).put hq5), ?_, ?_, ?_⟩
      · rw [upd_ne pq]; exact hp5
      · intro z hz
        rcases List.mem_append.mp hz with h | h
        · exact okr z h
        · exact (hin z (List.mem_reverse.mp h)).2
      · rw [backW_rev, ← hb, ews, List.append_assoc]; rfl
      · rw [backW_rev, List.length_append, List.length_append, ews, List.length_cons]
        omega
  · have hu : us = [] := by
      cases us with
      | nil => rfl
      | cons _ _ => exact absurd rfl c
    have hgn : gs = [] := List.eq_nil_of_length_eq_zero (by rw [← lus, hu]; rfl)
    subst hgn
    have hb : ws ++ [] = g.ws := hb
    rw [List.append_nil] at hb
    subst hb
    refine ⟨⟨_, rfl⟩, _, rfl, " ", p, g.ws, rfl, rfl, .inl (SqL.of hp'), ?_, fin _ sm⟩
    have := words_sum fun w hw => (ws_plain g ho w hw).2
    rw [show (" " : Str).length = 1 by decide +kernel]
    omega
end
end KL

namespace KG
open PySem PySem.Spec PyProof.Rows L2
/-! formulas as data -/
def fmD : Fm → PyData
  | .num n => .tuple [.str "number", .int n]
  | .one w f => .tuple [.str w, fmD f]
  | .two w f g => .tuple [.str w, fmD f, fmD g]
theorem dp_fm {K : PySem.W.Frag} {H : Hp} {t : Addr} {f : Fm} (h : FAt H t f) : Dp K H (.ref t) (fmD f) := by
  induction h with
  | num e => exact .tup (SqT.of e) (.cons (.str _) (.cons (.int _) .nil))
  | one e _ ih => exact .tup (SqT.of e) (.cons (.str _) (.cons ih .nil))
  | two e _ _ ih1 ih2 => exact .tup (SqT.of e) (.cons (.str _) (.cons ih1 (.cons ih2 .nil)))
theorem op_short : ∀ z ∈ ones ++ twos, z.cps.size ≤ 4 ∧ (z.cps.toList.all fun c => decide (c < 16 ^ 8)) = true := by decide +kernel
theorem fm_show : ∀ f : Fm, f.ok → (fmD f).showable = true ∧ (fmD f).hasDict = false ∧ (fmD f).depth = f.ht + 1 ∧ (fmD f).leavesShort 40 = true ∧ (fmD f).bulk ≤ 10 * f.ws.length
  | .num n, h => by
    have b : n.natAbs.log2 < 1920 := log_small (n := 100) (Nat.lt_of_lt_of_le h (by decide +kernel)) (by decide) (by decide)
    obtain ⟨_, _, _, _, c⟩ := canon_read (whole_num h)
    refine ⟨?_, rfl, rfl, ?_, ?_⟩
    · show (true && (decide (n.natAbs.log2 < 1920) && true)) = true
      rw [decide_eq_true b]; rfl
    · show ((("number" : Str).cps.toList.all fun c => decide (c < 16 ^ 8)) && (decide ((numS n).length ≤ 40) && true)) = true
      rw [decide_eq_true (show (numS n).length ≤ 40 by omega)]; decide +kernel
    · show ("number" : Str).cps.size + 1 + (0 + 1 + 0) ≤ 10 * 1
      decide +kernel
  | .one w f, h => by
    obtain ⟨h1, h2, h3, h4, h5⟩ := fm_show f h.2
    obtain ⟨a, b⟩ := op_short w (List.mem_append_left _ h.1)
    refine ⟨?_, ?_, ?_, ?_, ?_⟩
    · show (true && ((fmD f).showable && true)) = true
      rw [h1]; rfl
    · show (false || ((fmD f).hasDict || false)) = false
      rw [h2]; rfl
    · show max 0 (max (fmD f).depth 0) + 1 = f.ht + 1 + 1
      rw [h3]; omega
    · show ((w.cps.toList.all fun c => decide (c < 16 ^ 8)) && ((fmD f).leavesShort 40 && true)) = true
      rw [b, h4]; rfl
    · show w.cps.size + 1 + ((fmD f).bulk + 1 + 0) ≤ 10 * (f.ws.length + 1)
      omega
  | .two w f g, h => by
    obtain ⟨h1, h2, h3, h4, h5⟩ := fm_show f h.2.1
    obtain ⟨k1, k2, k3, k4, k5⟩ := fm_show g h.2.2
    obtain ⟨a, b⟩ := op_short w (List.mem_append_right _ h.1)
    refine ⟨?_, ?_, ?_, ?_, ?_⟩
    · show (true && ((fmD f).showable && ((fmD g).showable && true))) = true
      rw [h1, k1]; rfl
    · show (false || ((fmD f).hasDict || ((fmD g).hasDict || false))) = false
      rw [h2, k2]; rfl
    · show max 0 (max (fmD f).depth (max (fmD g).depth 0)) + 1 = max f.ht g.ht + 1 + 1
      rw [h3, k3]; omega
    · show ((w.cps.toList.all fun c => decide (c < 16 ^ 8)) && ((fmD f).leavesShort 40 && ((fmD g).leavesShort 40 && true))) = true
      rw [b, h4, k4]; rfl
    · show w.cps.size + 1 + ((fmD f).bulk + 1 + ((fmD g).bulk + 1 + 0)) ≤ 10 * ((f.ws ++ g.ws).length + 1)
      rw [List.length_append]; omega
theorem fm_shown {f : Fm} (h : f.ok) (l : f.ws.length ≤ 60) : (fmD f).showable = true ∧ (fmD f).hasDict = false ∧ (fmD f).depth ≤ 60 ∧ (fmD f).shown.length ≤ sizeLine := by
  obtain ⟨h1, h2, h3, h4, h5⟩ := fm_show f h
  have := ht_lt f
  refine ⟨h1, h2, by omega, ?_⟩
  have := PyData.shown_le_bulk 40 (by decide) (fmD f) h4
  have : (40 + 2) * (fmD f).bulk ≤ 42 * 600 := Nat.mul_le_mul_left _ (by omega)
  rw [sizeLine_eq]
  omega
/-! repeated words -/
theorem joinL_app (S : List Nat) (l : List Nat) : ∀ ps : List (List Nat), TL.joinL S (ps ++ [l]) = (ps.map (· ++ S)).flatten ++ l
  | [] => rfl
  | [p] => by
    show p ++ (S ++ l) = (p ++ S ++ []) ++ l
    rw [List.append_nil, List.append_assoc]
  | p :: q :: r => by
    have ih := joinL_app S l (q :: r)
    show p ++ (S ++ TL.joinL S ((q :: r) ++ [l])) = (p ++ S ++ ((q :: r).map (· ++ S)).flatten) ++ l
    rw [ih, List.append_assoc, List.append_assoc]
theorem rep_join {z : Str} {b : List Str} (e : TL.tl z = (b.map fun p => TL.tl p ++ [32]).flatten) (y : Str) (n : Nat) : repS z n ++ y = Txt.join " " ((List.replicate n b).flatten ++ [y]) := by
  refine TL.ext_tl ?_
  rw [TL.tl_append, tl_rep, TL.join_eq, TL.tl_join, sep_blank.tl, List.map_append, List.map_singleton, joinL_app, List.map_map]
  congr 1
  induction n with
  | zero => rfl
  | succ n ih =>
    rw [List.replicate_succ, List.replicate_succ, List.flatten_cons, List.flatten_cons, List.map_append, List.flatten_append, ih, e]; rfl
theorem flat_memS {b : List Str} {n : Nat} {s : Str} (h : s ∈ (List.replicate n b).flatten) : s ∈ b := by
  obtain ⟨l, h1, h2⟩ := List.mem_flatten.mp h
  rw [(List.mem_replicate.mp h1).2] at h2
  exact h2
theorem rep_split {z : Str} {b : List Str} (e : TL.tl z = (b.map fun p => TL.tl p ++ [32]).flatten) {y : Str} (hb : ∀ p ∈ b, 32 ∉ TL.tl p) (hy : 32 ∉ TL.tl y) (n : Nat) : Txt.split (repS z n ++ y) " " = (List.replicate n b).flatten ++ [y] := by
  rw [rep_join e y n]
  refine sep_blank.back (by simp) fun p hp => ?_
  rcases List.mem_append.mp hp with h | h
  · exact hb p (flat_memS h)
  · rw [List.mem_singleton.mp h]; exact hy
def negs : Nat → Fm
  | 0 => .num 1
  | n + 1 => .one "neg" (negs n)
def adds : Nat → Fm
  | 0 => .num 1
  | n + 1 => .two "add" (.num 1) (adds n)
theorem num1 : numS 1 = "1" := by decide +kernel
theorem negs_ws : ∀ n, (negs n).ws = (List.replicate n [("neg" : Str)]).flatten ++ [("1" : Str)]
  | 0 => by show [numS 1] = [] ++ [("1" : Str)]; rw [num1]; rfl
  | n + 1 => by
    show ("neg" : Str) :: (negs n).ws = _
    rw [negs_ws n, List.replicate_succ, List.flatten_cons]; rfl
theorem adds_ws : ∀ n, (adds n).ws = (List.replicate n [("add" : Str), "1"]).flatten ++ [("1" : Str)]
  | 0 => by show [numS 1] = [] ++ [("1" : Str)]; rw [num1]; rfl
  | n + 1 => by
    show ("add" : Str) :: ([numS 1] ++ (adds n).ws) = _
    rw [adds_ws n, num1, List.replicate_succ, List.flatten_cons]; rfl
theorem negs_ok : ∀ n, (negs n).ok
  | 0 => by show (1 : Int).natAbs < 10 ^ 30; decide +kernel
  | n + 1 => ⟨by decide +kernel, negs_ok n⟩
theorem adds_ok : ∀ n, (adds n).ok
  | 0 => by show (1 : Int).natAbs < 10 ^ 30; decide +kernel
  | n + 1 => ⟨by decide +kernel, (by show (1 : Int).natAbs < 10 ^ 30; decide +kernel), adds_ok n⟩
theorem negs_text (n : Nat) : Txt.split (repS "neg " n ++ "1") " " = (negs n).ws := by
  rw [negs_ws]
  exact rep_split (by decide +kernel) (by decide +kernel) (by decide +kernel) n
theorem adds_text (n : Nat) : Txt.split (repS "add 1 " n ++ "1") " " = (adds n).ws := by
  rw [adds_ws]
  exact rep_split (by decide +kernel) (by decide +kernel) (by decide +kernel) n
theorem same_fm {f g : Fm} (hf : f.ok) (hg : g.ok) (e : f.ws = g.ws) : f = g := (ws_inj f g [] [] hf hg (by rw [e])).1
theorem fm_split {f : Fm} (h : f.ok) : Txt.split (Txt.join " " f.ws) " " = f.ws := sep_blank.back (ws_ne f) fun p hp => (ws_plain f h p hp).1
end KG

namespace KL
open PySem PySem.Spec PyProof.Rows L2 KG
abbrev slaw : Stmt := topS 16
abbrev Nlaw : List Str := ["script", "state", "most", "formula", "text", "told", "back", "deep", "inner", "n", "many"]
theorem sclaw : FnScope Nlaw ["script"] (defScope slaw) := ⟨rfl, rfl, rfl, by decide +kernel, rfl, by decide +kernel, by decide +kernel⟩
section
variable {P : Program} {w : World} {K : PySem.W.Frag} {mg : Str → Option Value} {base : Heap} {C : Addr}
def sp_rfq (C : Addr) : Sp := fun vs H Q _ => sp_read_formula C vs H Q fun _ _ _ => False
set_option maxHeartbeats 8000000 in
theorem oklaw {f : Addr} {fd : FuncData} {k : Nat} (F : Fun K "law" "law" slaw f fd) (M : Names mg) (G_law_state : Cal P w K mg base k "_law_state" ["script"] (sp_law_state K)) (G_law_take : Cal P w K mg base k "_law_take" ["state", "many"] (sp_law_take K))
    (G_law_formula : Cal P w K mg base k "_law_formula" ["state", "size", "most"] (sp_law_formula K 62)) (G_law_words : Cal P w K mg base k "_law_words" ["formula"] (sp_law_words K 62)) (Gwrite_formula : Cal P w K mg base k "write_formula" ["formula"] sp_write_formula)
    (Gread_formula : Cal P w K mg base k "read_formula" ["text"] (sp_rfq C)) {a : Addr} {ns : List Int} {s : Shared} {H : Hp} (room : Room (k + 1) callerA) (e0 : Env0 P w K mg base callerA [] s H) (bind : BindsTo s fd ⟨[.ref a], []⟩ [("script", .ref a)]) (hS : SqL K H a (ns.map V.int)) (h63 : ns.length ≤ 63) :
    codeAny (model P w) callerA (.call (.ref f) ⟨[.ref a], []⟩) (CR CX0 [] P w H s (fun v _ => v = .bl true) fun _ _ _ => False) s := by
  refine fun_here F sclaw room e0 (us := [.ref a]) (vs := [.ref a]) bind (.cons rfl .nil) rfl (fun cdv hr => ?_)
  refine ⟨_, (pss_cons (ps_set (i := 1) sclaw.nd rfl (.inl rfl) (pe_call G_law_state.ok hr (by rfl) G_law_state.m G_law_state.kp G_law_state.b .nil pass0 (pa_cons (pv 0) pa_nil)))
    (pss_cons (ps_set (i := 2) sclaw.nd rfl (.inl rfl) (pe_ix ix_list (pe_lst (pa_cons pe_int (pa_cons pe_int (pa_cons (pe_op op_sub (pe_op op_pow pe_int pe_int) pe_int) pa_nil)))) (pe_call G_law_take.ok hr (by rfl) G_law_take.m G_law_take.kp G_law_take.b .nil pass0 (pa_cons (pv 1) (pa_cons pe_int pa_nil))) (fun _ _ => rfl)))
    (pss_cons (ps_set (i := 3) sclaw.nd rfl (.inl rfl) (pe_call G_law_formula.ok hr (by rfl) G_law_formula.m G_law_formula.kp G_law_formula.b .nil pass0 (pa_cons (pv 1) (pa_cons (pe_op op_add pe_int (pe_call G_law_take.ok hr (by rfl) G_law_take.m G_law_take.kp G_law_take.b .nil pass0 (pa_cons (pv 1) (pa_cons pe_int pa_nil)))) (pa_cons (pv 2) pa_nil)))))
    (pss_cons (ps_set (i := 4) sclaw.nd rfl (.inl rfl) (pe_join pe_str (pe_call G_law_words.ok hr (by rfl) G_law_words.m G_law_words.kp G_law_words.b .nil pass0 (pa_cons (pv 3) pa_nil))))
    (pss_cons (ps_set (i := 5) sclaw.nd rfl (.inl rfl) (pe_call Gwrite_formula.ok hr (by rfl) Gwrite_formula.m Gwrite_formula.kp Gwrite_formula.b .nil pass0 (pa_cons (pv 3) pa_nil)))
    (pss_cons (ps_set (i := 6) sclaw.nd rfl (.inl rfl) (pe_call Gread_formula.ok hr (by rfl) Gread_formula.m Gread_formula.kp Gread_formula.b .nil pass0 (pa_cons (pv 4) pa_nil)))
    (pss_cons (ps_set (i := 7) sclaw.nd rfl (.inl rfl) (pe_op op_add pe_int (pe_call G_law_take.ok hr (by rfl) G_law_take.m G_law_take.kp G_law_take.b .nil pass0 (pa_cons (pv 1) (pa_cons pe_int pa_nil)))))
    (pss_cons (ps_set (i := 8) sclaw.nd rfl (.inl rfl) (pe_call Gread_formula.ok hr (by rfl) Gread_formula.m Gread_formula.kp Gread_formula.b .nil pass0 (pa_cons (pe_op op_add_str (pe_op op_repS pe_str (pv 7)) pe_str) pa_nil)))
    (pss_cons (ps_for PassesOwn.never rfl (pi_range1 (by rfl) M.range (pa_cons (pv 7) pa_nil)) (pg_name (i := 9) sclaw.nd rfl (.inl rfl))
      (pss_cons (ps_if (PW.pt (pw_or (pt_not (pt_val (pe_callB call_isi (by rfl) M.isinstance (by decide +kernel) (pa_cons (pv 8) (pa_cons (pe_bltn (v := .ty "tuple") (by rfl) M.tuple (by decide +kernel) rfl) pa_nil))))) (pw_or (pt_cmpR op_ne (pe_callB call_len_seq (by rfl) M.len PySem.boot_len (pa_cons (pv 8) pa_nil)) pe_int (nomark _)) (pw_or1 (pt_cmpR op_ne (pe_ix ix_tup (pv 8) pe_int (fun _ _ => rfl)) pe_str (nomark _))))))
        (pss_one (ps_ret pe_bl))
        pss_nil)
      (pss_one (ps_set (i := 8) sclaw.nd rfl (.inl rfl) (pe_ix ix_tup (pv 8) pe_int (fun _ _ => rfl))))))
    (pss_cons (ps_if (pt_cmpR (op_neD hr.units) (pv 8) (pe_tup (pa_cons pe_str (pa_cons pe_int pa_nil))) (nomark _))
      (pss_one (ps_ret pe_bl))
      pss_nil)
    (pss_cons (ps_set (i := 10) sclaw.nd rfl (.inl rfl) (pe_op op_add pe_int (pe_call G_law_take.ok hr (by rfl) G_law_take.m G_law_take.kp G_law_take.b .nil pass0 (pa_cons (pv 1) (pa_cons pe_int pa_nil)))))
    (pss_cons (ps_set (i := 8) sclaw.nd rfl (.inl rfl) (pe_call Gread_formula.ok hr (by rfl) Gread_formula.m Gread_formula.kp Gread_formula.b .nil pass0 (pa_cons (pe_op op_add_str (pe_op op_repS pe_str (pv 10)) pe_str) pa_nil)))
    (pss_cons (ps_for PassesOwn.never rfl (pi_range1 (by rfl) M.range (pa_cons (pv 10) pa_nil)) (pg_name (i := 9) sclaw.nd rfl (.inl rfl))
      (pss_cons (ps_if (PW.pt (pw_or (pt_not (pt_val (pe_callB call_isi (by rfl) M.isinstance (by decide +kernel) (pa_cons (pv 8) (pa_cons (pe_bltn (v := .ty "tuple") (by rfl) M.tuple (by decide +kernel) rfl) pa_nil))))) (pw_or (pt_cmpR op_ne (pe_callB call_len_seq (by rfl) M.len PySem.boot_len (pa_cons (pv 8) pa_nil)) pe_int (nomark _)) (pw_or1 (pt_cmpR (op_neD hr.units) (pe_slice sl_tup (pv 8) po_none (po_some pe_int)) (pe_tup (pa_cons pe_str (pa_cons (pe_tup (pa_cons pe_str (pa_cons pe_int pa_nil))) pa_nil))) (nomark _))))))
        (pss_one (ps_ret pe_bl))
        pss_nil)
      (pss_one (ps_set (i := 8) sclaw.nd rfl (.inl rfl) (pe_ix ix_tup (pv 8) pe_int (fun _ _ => rfl))))))
    (pss_cons (ps_if (pt_cmpR op_ne (pe_callB (call_reprD rfl hr.units) (by rfl) M.repr (by decide +kernel) (pa_cons (pv 8) pa_nil)) (pe_callB (call_reprD rfl hr.units) (by rfl) M.repr (by decide +kernel) (pa_cons (pe_tup (pa_cons pe_str (pa_cons pe_int pa_nil))) pa_nil)) (nomark _))
      (pss_one (ps_ret pe_bl))
      pss_nil)
    (pss_one (ps_ret (pe_and (pe_callB call_isi (by rfl) M.isinstance (by decide +kernel) (pa_cons (pv 5) (pa_cons (pe_bltn (v := .ty "str") (by rfl) M.str (by decide +kernel) rfl) pa_nil))) (pe_and (pe_cmpR op_eq (pv 5) (pv 4) (nomark _)) (pe_and (pe_callB call_isi (by rfl) M.isinstance (by decide +kernel) (pa_cons (pv 6) (pa_cons (pe_bltn (v := .ty "tuple") (by rfl) M.tuple (by decide +kernel) rfl) pa_nil))) (pe_one (pe_cmpR op_eq (pe_callB (call_reprD rfl hr.units) (by rfl) M.repr (by decide +kernel) (pa_cons (pv 6) pa_nil)) (pe_callB (call_reprD rfl hr.units) (by rfl) M.repr (by decide +kernel) (pa_cons (pv 3) pa_nil)) (nomark _)))))))))))))))))))))), ?_⟩
  have lgN : ∀ n : Int, n.natAbs < 2 ^ 110 → n.natAbs.log2 < 9000 := fun n h => log_small (n := 110) h (by decide) (by decide)
  have smL : ∀ n : Nat, n ≤ 1000 → n ≤ sizeLine := fun n h => Nat.le_of_lt (small1000 h)
  refine ⟨_, rfl, a, ns, rfl, hS, h63, fun H1 p s1 hp X1 _ => ?_⟩
  -- most
  refine ⟨_, _, rfl, rfl, ⟨by decide, by decide, by decide⟩, _, _, rfl, rfl, (by show 3 ≤ sizeLine; decide), fun tm ntm => ?_⟩
  have Sm := same_new ntm (.lst [V.int 9, .int 200, .int (10 ^ (30 : Int).toNat - 1)])
  have tmp : tm ≠ p := X1.ne ntm
  refine ⟨_, rfl, p, a, ns, _, rfl, X1.same Sm, seqO hS hp (s1.trans Sm), by decide, lgN _ (by decide), fun d0 H2 d00 d01 X2 b2 => ?_⟩
  obtain ⟨Mo, hMo, M0, M1⟩ : ∃ Mo : Int, atI [V.int 9, .int 200, .int (10 ^ (30 : Int).toNat - 1)] d0 = some (.int Mo) ∧ 0 ≤ Mo ∧ Mo < 10 ^ 30 := by
    rcases (by omega : d0 = 0 ∨ d0 = 1 ∨ d0 = 2) with rfl | rfl | rfl
    · exact ⟨9, rfl, by decide, by decide +kernel⟩
    · exact ⟨200, rfl, by decide, by decide +kernel⟩
    · exact ⟨10 ^ (30 : Int).toNat - 1, rfl, by decide +kernel, by decide +kernel⟩
  refine ⟨tm, _, _, _, rfl, rfl, SqL.of (b2 _ _ tmp upd_same), hMo, ?_⟩
  have s2 := same_but (s1.trans Sm) b2 hp
  -- formula
  refine ⟨_, rfl, _, rfl, p, a, ns, _, rfl, X2, seqO hS hp s2, by decide, lgN _ (by decide), fun d1 H3 d10 d11 X3 b3 => ?_⟩
  have s3 := same_but s2 b3 hp
  obtain ⟨sz, hsz⟩ : ∃ sz : Nat, 1 + d1 = (sz : Int) := ⟨(1 + d1).toNat, by omega⟩
  refine ⟨_, _, rfl, rfl, _, rfl, p, a, ns, sz, Mo, by rw [← hsz]; rfl, X3, seqO hS hp s3, by omega, by omega, M0, M1, fun H4 tf fm X4 b4 hf ho hl => ?_⟩
  have l60 : fm.ws.length ≤ 60 := by omega
  have hlt := ht_lt fm
  have s4 := same_but s3 b4 hp
  -- text
  refine ⟨⟨_, rfl⟩, _, rfl, tf, fm, rfl, hf, by omega, ho, by omega, fun H5 q5 s5 nq5 hq5 => ?_⟩
  have X5 := X4.same s5
  have hf5 := hf.same s5
  have s5' := s4.trans s5
  have tl5 : (fm.ws.map (·.length)).sum + fm.ws.length * 1 ≤ 2000 := by
    have := words_sum fun w hw => (ws_plain fm ho w hw).2
    omega
  refine ⟨_, q5, fm.ws, rfl, rfl, .inl (SqL.of hq5), Nat.le_trans tl5 (by decide), ?_⟩
  have xlen : (Txt.join " " fm.ws).length ≤ 2000 := Nat.le_trans (sep_blank.join_len _) (by omega)
  -- told, back
  refine ⟨_, rfl, tf, fm, rfl, hf5, ho, by omega, fun H6 s6 => ?_⟩
  have X6 := X5.same s6
  have hf6 := hf5.same s6
  have s6' := s5'.trans s6
  refine ⟨_, rfl, _, rfl, by omega, fun _ H7 pb fb sb hfb eb hob => ?_, fun k hk => ?_⟩
  rotate_left
  · rw [fm_split ho, fault_ok ho] at hk
    cases hk
  rw [fm_split ho] at eb
  obtain rfl : fb = fm := same_fm hob ho eb
  have X7 := X6.same sb
  have hf7 := hf6.same sb
  have s7 := s6'.trans sb
  generalize Txt.join " " fb.ws = tx at xlen
  -- deep
  refine ⟨_, rfl, p, a, ns, _, rfl, X7, seqO hS hp s7, by decide, lgN _ (by decide), fun d2 H8 d20 d21 X8 b8 => ⟨_, _, rfl, rfl, ?_⟩⟩
  have s8 := same_but s7 b8 hp
  have hf8 := hf7.but X7 b8
  have hfb8 := hfb.but X7 b8
  obtain ⟨n, hn⟩ : ∃ n : Nat, 100 + d2 = (n : Int) := ⟨(100 + d2).toNat, by omega⟩
  rw [show (fun i j => V.int (i + j)) (100 : Int) d2 = V.int (n : Int) from congrArg V.int hn]
  have n2 : 2 ≤ n := by omega
  have n3 : n ≤ 1000 := by omega
  have nl : ("neg " : Str).length = 4 := by decide +kernel
  have al : ("add 1 " : Str).length = 6 := by decide +kernel
  have ol : ("1" : Str).length = 1 := by decide +kernel
  refine ⟨_, rfl, _, _, rfl, rfl, by omega, by omega, by rw [nl]; decide, by rw [nl]; decide, ?_⟩
  rw [Int.toNat_natCast]
  have lr : (repS "neg " n ++ "1" : Str).length ≤ 10000 := by
    rw [TL.len_tl, TL.tl_append, List.length_append, ← TL.len_tl, ← TL.len_tl, len_rep, nl, ol]; omega
  refine ⟨_, _, rfl, rfl, ?_, ?_⟩
  · rw [len_rep, nl, ol]; rw [sizeLine_eq]; omega
  refine ⟨_, rfl, by omega, fun _ H9 pi fi si hfi ei hoi => ?_, fun k hk => ?_⟩
  rotate_left
  · rw [negs_text, fault_ok (negs_ok n)] at hk
    cases hk
  rw [negs_text] at ei
  obtain rfl : fi = negs n := same_fm hoi (negs_ok n) ei
  have X9 := X8.same si
  have s9 := s8.trans si
  have hf9 := hf8.same si
  have hfb9 := hfb8.same si
  refine ⟨_, rfl, _, rfl, by omega, by omega, for_range (lo := 0) (fun k σ H' => ∃ (t : Addr) (y9 : Option V), σ = [some (.ref a), some (.ref p), some (.int Mo), some (.ref tf), some (.str tx), some (.str tx), some (.ref pb), some (.int (n : Int)), some (.ref t), y9, none] ∧ StX H' p a ns ∧ Same H H' ∧ FAt H' t (negs (n - k)) ∧ FAt H' tf fb ∧ FAt H' pb fb)
    ⟨pi, none, rfl, X9, s9, hfi, hf9, hfb9⟩ (fun k σ H' hk hP => ?_) (fun σ H' hP => ?_)⟩
  · obtain ⟨t, y9, rfl, X, sm, ht, h1, h2⟩ := hP
    rw [Int.toNat_natCast] at hk
    rw [show n - k = (n - (k + 1)) + 1 by omega] at ht
    obtain ⟨u, et, hu⟩ : ∃ u, H' t = some (.tup [.str "neg", .ref u]) ∧ FAt H' u (negs (n - (k + 1))) := by
      cases ht with
      | one e h => exact ⟨_, e, h⟩
    refine ⟨_, rfl, _, _, _, _, _, rfl, .ty "tuple", .base (.tup et), kit_ty (show kitB "tuple" "tuple" = some true by decide +kernel), _, rfl, iteF ?_⟩
    refine ⟨_, rfl, t, _, rfl, .inr (SqT.of et), rfl, _, rfl, iteF' (by rfl) ?_⟩
    refine ⟨_, rfl, t, _, _, _, rfl, rfl, SqT.of et, atI_nat (j := 0) rfl, rfl, _, rfl, iteF' (by rfl) ?_⟩
    refine ⟨_, rfl, t, _, _, _, rfl, rfl, SqT.of et, atI_nat (j := 1) rfl, ?_⟩
    exact ⟨u, _, rfl, X, sm, hu, h1, h2⟩
  obtain ⟨t, y9, rfl, X10, s10, ht, hf10, hfb10⟩ := hP
  rw [Int.toNat_natCast, Nat.sub_self] at ht
  have et : H' t = some (.tup [.str "number", .int 1]) := by
    cases ht with
    | num e => exact e
  have one30 : (Fm.num 1).ok := negs_ok 0
  obtain ⟨o1, o2, o3, o4⟩ := fm_shown one30 (by show 1 ≤ 60; decide)
  refine ⟨_, rfl, (by show 2 ≤ sizeLine; decide), fun t1 nt1 => ?_⟩
  have T1 := same_new nt1 (.tup [V.str "number", .int 1])
  refine ⟨fmD (.num 1), fmD (.num 1), dp_fm (.num (T1 _ _ et)), dp_fm (.num upd_same), by decide +kernel, by decide +kernel, _, rfl, iteF' (by decide +kernel) ?_⟩
  have X11 := X10.same T1
  have s11 := s10.trans T1
  have hf11 := hf10.same T1
  have hfb11 := hfb10.same T1
  generalize (upd H' t1 (.tup [V.str "number", .int 1])) = H11 at X11 s11 hf11 hfb11
  -- many
  refine ⟨_, rfl, p, a, ns, _, rfl, X11, seqO hS hp s11, by decide, lgN _ (by decide), fun d3 H12 d30 d31 X12 b12 => ⟨_, _, rfl, rfl, ?_⟩⟩
  have s12 := same_but s11 b12 hp
  have hf12 := hf11.but X11 b12
  have hfb12 := hfb11.but X11 b12
  obtain ⟨m, hm⟩ : ∃ m : Nat, 50 + d3 = (m : Int) := ⟨(50 + d3).toNat, by omega⟩
  rw [show (fun i j => V.int (i + j)) (50 : Int) d3 = V.int (m : Int) from congrArg V.int hm]
  have m2 : 2 ≤ m := by omega
  have m3 : m ≤ 1000 := by omega
  refine ⟨_, rfl, _, _, rfl, rfl, by omega, by omega, by rw [al]; decide, by rw [al]; decide, ?_⟩
  rw [Int.toNat_natCast]
  have lm : (repS "add 1 " m ++ "1" : Str).length ≤ 10000 := by
    rw [TL.len_tl, TL.tl_append, List.length_append, ← TL.len_tl, ← TL.len_tl, len_rep, al, ol]; omega
  refine ⟨_, _, rfl, rfl, ?_, ?_⟩
  · rw [len_rep, al, ol]; rw [sizeLine_eq]; omega
  refine ⟨_, rfl, by omega, fun _ H13 pj fj sj hfj ej hoj => ?_, fun k hk => ?_⟩
  rotate_left
  · rw [adds_text, fault_ok (adds_ok m)] at hk
    cases hk
  rw [adds_text] at ej
  obtain rfl : fj = adds m := same_fm hoj (adds_ok m) ej
  have X13 := X12.same sj
  have s13 := s12.trans sj
  have hf13 := hf12.same sj
  have hfb13 := hfb12.same sj
  refine ⟨_, rfl, _, rfl, by omega, by omega, for_range (lo := 0) (fun k σ H' => ∃ (t : Addr) (y9 : Option V), σ = [some (.ref a), some (.ref p), some (.int Mo), some (.ref tf), some (.str tx), some (.str tx), some (.ref pb), some (.int (n : Int)), some (.ref t), y9, some (.int (m : Int))] ∧ StX H' p a ns ∧ Same H H' ∧ FAt H' t (adds (m - k)) ∧ FAt H' tf fb ∧ FAt H' pb fb)
    ⟨pj, _, rfl, X13, s13, hfj, hf13, hfb13⟩ (fun k σ H' hk hP => ?_) (fun σ H' hP => ?_)⟩
  · obtain ⟨t, y9, rfl, X, sm, ht, h1, h2⟩ := hP
    rw [Int.toNat_natCast] at hk
    rw [show m - k = (m - (k + 1)) + 1 by omega] at ht
    obtain ⟨v, u, et, hv, hu⟩ : ∃ v u, H' t = some (.tup [.str "add", .ref v, .ref u]) ∧ FAt H' v (.num 1) ∧ FAt H' u (adds (m - (k + 1))) := by
      cases ht with
      | two e h k => exact ⟨_, _, e, h, k⟩
    refine ⟨_, rfl, _, _, _, _, _, rfl, .ty "tuple", .base (.tup et), kit_ty (show kitB "tuple" "tuple" = some true by decide +kernel), _, rfl, iteF ?_⟩
    refine ⟨_, rfl, t, _, rfl, .inr (SqT.of et), rfl, _, rfl, iteF' (by rfl) ?_⟩
    refine ⟨_, rfl, _, rfl, t, _, rfl, SqT.of et, (show ¬ (HT.sIx 3 0 none = 0 ∧ HT.sIx 3 3 (some 2) = 3) by decide +kernel), fun c nc => ⟨(by show 2 ≤ sizeLine; decide), fun t3 n3 => ⟨(by show 2 ≤ sizeLine; decide), fun t4 n4 => ?_⟩⟩⟩
    have ec : cutV [V.str "add", .ref v, .ref u] none (some 2) = [V.str "add", .ref v] := by
      show ([V.str "add", .ref v, .ref u].drop (HT.sIx 3 0 none)).take (HT.sIx 3 3 (some 2) - HT.sIx 3 0 none) = _
      rw [show HT.sIx 3 0 none = 0 by decide +kernel, show HT.sIx 3 3 (some 2) = 2 by decide +kernel]; rfl
    rw [ec] at n3 n4 ⊢
    have C1 := same_new nc (.tup [V.str "add", .ref v])
    have C2 := same_new n3 (.tup [V.str "number", .int 1])
    have C3 := same_new n4 (.tup [V.str "add", .ref t3])
    have C13 := C1.trans (C2.trans C3)
    have e1 := (C2.trans C3) _ _ (show (upd H' c (.tup [V.str "add", .ref v])) c = some (.tup [V.str "add", .ref v]) from upd_same)
    have e2 := C3 _ _ (show (upd (upd H' c (.tup [V.str "add", .ref v])) t3 (.tup [V.str "number", .int 1])) t3 = some (.tup [V.str "number", .int 1]) from upd_same)
    refine ⟨.tuple [.str "add", fmD (.num 1)], .tuple [.str "add", fmD (.num 1)], .tup (SqT.of e1) (.cons (.str _) (.cons (dp_fm (hv.same C13)) .nil)), .tup (SqT.of upd_same) (.cons (.str _) (.cons (dp_fm (.num e2)) .nil)), by decide +kernel, by decide +kernel, _, rfl, iteF' (by decide +kernel) ?_⟩
    have et' := C13 _ _ et
    refine ⟨_, rfl, t, _, _, _, rfl, rfl, SqT.of et', atI_nat (j := 2) rfl, ?_⟩
    exact ⟨u, _, rfl, X.same C13, sm.trans C13, hu.same C13, h1.same C13, h2.same C13⟩
  obtain ⟨t2, y9', rfl, X14, s14, ht2, hf14, hfb14⟩ := hP
  rw [Int.toNat_natCast, Nat.sub_self] at ht2
  have ht2 : FAt _ t2 (.num 1) := ht2
  refine ⟨_, rfl, t2, _, rfl, dp_fm ht2, o1, o2, o3, o4, (by show 2 ≤ sizeLine; decide), fun t5 n5 => ?_⟩
  have T5 := same_new n5 (.tup [V.str "number", .int 1])
  refine ⟨t5, fmD (.num 1), rfl, dp_fm (.num upd_same), o1, o2, o3, o4, rfl, _, rfl, iteF' (by simp) ?_⟩
  have hf15 := hf14.same T5
  have hfb15 := hfb14.same T5
  obtain ⟨sh1, sh2, sh3, sh4⟩ := fm_shown ho l60
  refine ⟨_, rfl, _, _, _, _, _, rfl, .ty "str", .base (.str _), kit_ty (show kitB "str" "str" = some true by decide +kernel), _, rfl, iteT' rfl ?_⟩
  refine ⟨_, rfl, _, rfl, rfl, _, rfl, iteT' (decide_eq_true rfl) ?_⟩
  obtain ⟨ys, hpb⟩ : ∃ ys, (upd _ t5 (.tup [V.str "number", .int 1]) : Hp) pb = some (.tup ys) := by
    cases hfb15 with
    | num e => exact ⟨_, e⟩
    | one e _ => exact ⟨_, e⟩
    | two e _ _ => exact ⟨_, e⟩
  refine ⟨_, rfl, _, _, _, _, _, rfl, .ty "tuple", .base (.tup hpb), kit_ty (show kitB "tuple" "tuple" = some true by decide +kernel), _, rfl, iteT' rfl ?_⟩
  refine ⟨_, rfl, pb, _, rfl, dp_fm hfb15, sh1, sh2, sh3, sh4, _, rfl, tf, _, rfl, dp_fm hf15, sh1, sh2, sh3, sh4, rfl, ?_⟩
  exact congrArg V.bl (decide_eq_true rfl)
end
end KL

namespace KL
open PySem PySem.Spec PyProof.Rows L2 KG
set_option maxHeartbeats 4000000 in
theorem all_mk {l : PySem.W.OpenLaw} {w : World} {K : PySem.W.Frag} {h : Heap} {mg : Str → Option Value} {fa aD1 f1 f2 f3 f4 f5 f6 f7 f8 f9 eC1 eI1 eW1 eN1 : Addr} (X : K.In h) (G : h.Ns mainGlobals mg) (hfa : mg "law" = some (.ref fa))
    {od1 an1 od2 an2 od3 an3 od4 an4 od5 an5 od6 an6 od7 an7 od8 an8 od9 an9 od10 an10 : Option Addr} {sl1 sl2 sl3 sl4 sl5 sl6 sl7 sl8 sl9 sl10 : Array (Option Value)} {oc1 kV1 dc1 pm1 cd1 ct1 oc2 kV2 dc2 pm2 cd2 ct2 oc3 kV3 dc3 pm3 cd3 ct3 oc4 kV4 dc4 pm4 cd4 ct4 oc5 kV5 dc5 pm5 cd5 ct5 oc6 kV6 dc6 pm6 cd6 ct6 oc7 kV7 dc7 pm7 cd7 ct7 oc8 kV8 dc8 pm8 cd8 ct8 oc9 kV9 dc9 pm9 cd9 ct9 oc10 kV10 dc10 pm10 cd10 ct10 : Value}
    {nm1 q1 : Str} {bs1 sub1 : List Value} {sn1 : List Str} {ab1 : Bool} {col1 : Option Bool} {dd1 : Option Addr} {m0_1 m1_1 m2_1 m3_1 m5_1 : Option Value}
    {tI1 : Tok}
    {nD1 : Nat} {kD1_0 vD1_0 kD1_1 vD1_1 kD1_2 vD1_2 kD1_3 vD1_3 kD1_4 vD1_4 kD1_5 vD1_5 : Tok}
    (a1 : PySem.W.nsIn K mainGlobals "integer_of" = some (some (.ref f1))) (l1 : K.lookup f1 = some ⟨oc1, od1, .func (PySem.W.fnOf "integer_of" "integer_of" (defArgs sinteger_of) (defBody sinteger_of) (defScope sinteger_of) .none kV1 dc1 pm1 an1 cd1 ct1), sl1⟩) (c1 : PySem.W.codeIn K cd1 "integer_of" = true) (k1 : PySem.W.keepIn K (.ref f1) = true)
    (a2 : PySem.W.nsIn K mainGlobals "_fault" = some (some (.ref f2))) (l2 : K.lookup f2 = some ⟨oc2, od2, .func (PySem.W.fnOf "_fault" "_fault" (defArgs s_fault) (defBody s_fault) (defScope s_fault) .none kV2 dc2 pm2 an2 cd2 ct2), sl2⟩) (c2 : PySem.W.codeIn K cd2 "_fault" = true) (k2 : PySem.W.keepIn K (.ref f2) = true)
    (a3 : PySem.W.nsIn K mainGlobals "read_formula" = some (some (.ref f3))) (l3 : K.lookup f3 = some ⟨oc3, od3, .func (PySem.W.fnOf "read_formula" "read_formula" (defArgs sread_formula) (defBody sread_formula) (defScope sread_formula) .none kV3 dc3 pm3 an3 cd3 ct3), sl3⟩) (c3 : PySem.W.codeIn K cd3 "read_formula" = true) (k3 : PySem.W.keepIn K (.ref f3) = true)
    (a4 : PySem.W.nsIn K mainGlobals "write_formula" = some (some (.ref f4))) (l4 : K.lookup f4 = some ⟨oc4, od4, .func (PySem.W.fnOf "write_formula" "write_formula" (defArgs swrite_formula) (defBody swrite_formula) (defScope swrite_formula) .none kV4 dc4 pm4 an4 cd4 ct4), sl4⟩) (c4 : PySem.W.codeIn K cd4 "write_formula" = true) (k4 : PySem.W.keepIn K (.ref f4) = true)
    (a5 : PySem.W.nsIn K mainGlobals "_law_state" = some (some (.ref f5))) (l5 : K.lookup f5 = some ⟨oc5, od5, .func (PySem.W.fnOf "_law_state" "_law_state" (defArgs s_law_state) (defBody s_law_state) (defScope s_law_state) .none kV5 dc5 pm5 an5 cd5 ct5), sl5⟩) (c5 : PySem.W.codeIn K cd5 "_law_state" = true) (k5 : PySem.W.keepIn K (.ref f5) = true)
    (a6 : PySem.W.nsIn K mainGlobals "_law_take" = some (some (.ref f6))) (l6 : K.lookup f6 = some ⟨oc6, od6, .func (PySem.W.fnOf "_law_take" "_law_take" (defArgs s_law_take) (defBody s_law_take) (defScope s_law_take) .none kV6 dc6 pm6 an6 cd6 ct6), sl6⟩) (c6 : PySem.W.codeIn K cd6 "_law_take" = true) (k6 : PySem.W.keepIn K (.ref f6) = true)
    (a7 : PySem.W.nsIn K mainGlobals "_law_formula" = some (some (.ref f7))) (l7 : K.lookup f7 = some ⟨oc7, od7, .func (PySem.W.fnOf "_law_formula" "_law_formula" (defArgs s_law_formula) (defBody s_law_formula) (defScope s_law_formula) .none kV7 dc7 pm7 an7 cd7 ct7), sl7⟩) (c7 : PySem.W.codeIn K cd7 "_law_formula" = true) (k7 : PySem.W.keepIn K (.ref f7) = true)
    (a8 : PySem.W.nsIn K mainGlobals "_law_words" = some (some (.ref f8))) (l8 : K.lookup f8 = some ⟨oc8, od8, .func (PySem.W.fnOf "_law_words" "_law_words" (defArgs s_law_words) (defBody s_law_words) (defScope s_law_words) .none kV8 dc8 pm8 an8 cd8 ct8), sl8⟩) (c8 : PySem.W.codeIn K cd8 "_law_words" = true) (k8 : PySem.W.keepIn K (.ref f8) = true)
    (a9 : PySem.W.nsIn K mainGlobals "law" = some (some (.ref f9))) (l9 : K.lookup f9 = some ⟨oc9, od9, .func (PySem.W.fnOf "law" "law" (defArgs slaw) (defBody slaw) (defScope slaw) .none kV9 dc9 pm9 an9 cd9 ct9), sl9⟩) (c9 : PySem.W.codeIn K cd9 "law" = true) (k9 : PySem.W.keepIn K (.ref f9) = true)
    (x1_1 : PySem.W.nsIn K mainGlobals "BadText" = some (some (.ref eC1))) (x1_2 : PySem.W.nsIn K mainGlobals "WorkError" = some (some (.ref eW1)))
    (x1_3 : K.lookup eC1 = some (excClassObj nm1 q1 eC1 eN1 bs1 [.ref eW1, .type "ValueError", .type "Exception", .type "BaseException", .type "object"] true sn1 sub1 ab1 col1 dd1 m0_1 m1_1 m2_1 m3_1 m5_1 "ValueError.__new__"))
    (x1_4 : PySem.W.findIn K (.ref eC1) "__setattr__" = some (some (.builtin "object.__setattr__"))) (x1_5 : PySem.W.findIn K (.ref eC1) "__getattribute__" = some (some (.builtin "BaseException.__getattribute__"))) (x1_6 : PySem.W.findIn K (.ref eC1) "__getattr__" = some none) (x1_7 : PySem.W.findIn K (.ref eC1) "place" = some none) (x1_8 : PySem.W.findIn K (.ref eC1) "__init__" = some (some (.ref eI1))) (x1_9 : PySem.W.typeIn K (.ref eI1) = some (.type "function")) (x1_10 : PySem.W.keepIn K (.ref eC1) = true) (x1_11 : PySem.W.subIn K (.ref eC1) (.type "BaseException") = some true) (x1_12 : PySem.W.typeIn K (.ref eC1) = some (.type "type")) (x1_13 : PySem.W.hasDictIn K eC1 = true) (x1_14 : PySem.W.isClsIn K eC1 = true) (x1_15 : PySem.W.subIn K (.ref eC1) (.ref eC1) = some true) (x1_16 : PySem.W.subIn K (.ref eC1) (.ref eW1) = some true) (x1_17 : PySem.W.typeIn K (.ref eW1) = some (.type "type")) (x1_18 : PySem.W.isClsIn K eW1 = true) (x1_19 : PySem.W.subIn K (.ref eC1) (.type "ValueError") = some true) (x1_20 : PySem.W.findIn K (.ref eC1) "__class__" = some (some (.builtin "object.__class__"))) (x1_21 : PySem.W.specialIn K (.builtin "object.__class__") "__get__" = some (some (.builtin "getset_descriptor.__get__"))) (x1_22 : PySem.W.takesIn K (.builtin "object.__class__") = some true) (x1_23 : PySem.W.mroIn K eC1 (.type "object") = some true)
    (l10 : K.lookup eI1 = some ⟨oc10, od10, .func (PySem.W.fnOf "__init__" "BadText.__init__" (defArgs s_bt) (defBody s_bt) (defScope s_bt) .none kV10 dc10 pm10 an10 cd10 ct10), sl10⟩) (c10 : PySem.W.codeIn K cd10 "BadText.__init__" = true) (k10 : PySem.W.keepIn K (.ref eI1) = true)
    (z1 : PySem.W.nsIn K mainGlobals "ValueError" = some none)
    (z2 : PySem.W.nsIn K mainGlobals "int" = some none)
    (z3 : PySem.W.nsIn K mainGlobals "reversed" = some none)
    (z4 : PySem.W.nsIn K mainGlobals "enumerate" = some none)
    (z5 : PySem.W.nsIn K mainGlobals "range" = some none)
    (z6 : PySem.W.nsIn K mainGlobals "len" = some none)
    (z7 : PySem.W.nsIn K mainGlobals "abs" = some none)
    (z8 : PySem.W.nsIn K mainGlobals "repr" = some none)
    (z9 : PySem.W.nsIn K mainGlobals "isinstance" = some none)
    (z10 : PySem.W.nsIn K mainGlobals "str" = some none)
    (z11 : PySem.W.nsIn K mainGlobals "tuple" = some none)
    (i1 : PySem.W.nsIn K mainGlobals "MOST_DIGITS" = some (some (.int 30 tI1)))
    (d1_1 : PySem.W.nsIn K mainGlobals "PARTS" = some (some (.ref aD1))) (d1_2 : K.lookup aD1 = some ⟨.type "dict", none, .dict #[⟨PyData.keyHash w.params "add", .str "add" kD1_0, .int 2 vD1_0⟩, ⟨PyData.keyHash w.params "sub", .str "sub" kD1_1, .int 2 vD1_1⟩, ⟨PyData.keyHash w.params "mul", .str "mul" kD1_2, .int 2 vD1_2⟩, ⟨PyData.keyHash w.params "div", .str "div" kD1_3, .int 2 vD1_3⟩, ⟨PyData.keyHash w.params "neg", .str "neg" kD1_4, .int 1 vD1_4⟩, ⟨PyData.keyHash w.params "root", .str "root" kD1_5, .int 1 vD1_5⟩] nD1, #[]⟩) (d1_3 : (aD1 == sysModules) = false)
    : ∀ (s1 : Shared) (a0 : Addr) (ns0 : List Int), ns0.length ≤ 63 → ∀ (base : Heap) (H : Hp), K.In base → base.Ns mainGlobals mg → Env0 l.prog w K mg base callerA [] s1 H → SqL K H a0 (ns0.map V.int) → codeAny (model l.prog w) callerA (.call (.ref fa) ⟨[.ref a0], []⟩) (CR CX0 [] l.prog w H s1 (fun v _ => v = .bl true) fun _ _ _ => False) s1 := by
  have e := hfa.symm.trans (PySem.W.mg_of X G a9)
  cases e
  have F1 := fun_mk (st := sinteger_of) l1 c1 k1
  have F2 := fun_mk (st := s_fault) l2 c2 k2
  have F3 := fun_mk (st := sread_formula) l3 c3 k3
  have F4 := fun_mk (st := swrite_formula) l4 c4 k4
  have F5 := fun_mk (st := s_law_state) l5 c5 k5
  have F6 := fun_mk (st := s_law_take) l6 c6 k6
  have F7 := fun_mk (st := s_law_formula) l7 c7 k7
  have F8 := fun_mk (st := s_law_words) l8 c8 k8
  have F9 := fun_mk (st := slaw) l9 c9 k9
  have F10 := fun_mk (st := s_bt) l10 c10 k10
  have b1 := F1.binds (ps := ["word"]) fun _ _ _ _ _ _ us hl => match us, hl with | [_], _ => rfl
  have b2 := F2.binds (ps := ["words"]) fun _ _ _ _ _ _ us hl => match us, hl with | [_], _ => rfl
  have b3 := F3.binds (ps := ["text"]) fun _ _ _ _ _ _ us hl => match us, hl with | [_], _ => rfl
  have b4 := F4.binds (ps := ["formula"]) fun _ _ _ _ _ _ us hl => match us, hl with | [_], _ => rfl
  have b5 := F5.binds (ps := ["script"]) fun _ _ _ _ _ _ us hl => match us, hl with | [_], _ => rfl
  have b6 := F6.binds (ps := ["state", "many"]) fun _ _ _ _ _ _ us hl => match us, hl with | [_, _], _ => rfl
  have b7 := F7.binds (ps := ["state", "size", "most"]) fun _ _ _ _ _ _ us hl => match us, hl with | [_, _, _], _ => rfl
  have b8 := F8.binds (ps := ["formula"]) fun _ _ _ _ _ _ us hl => match us, hl with | [_], _ => rfl
  have b10 := F10.binds (ps := ["self", "place"]) fun _ _ _ _ _ _ us hl => match us, hl with | [_, _], _ => rfl
  have T1 := own_mk X G x1_1 x1_3 x1_4 x1_5 x1_6 x1_7 x1_8 x1_9 x1_10 x1_11 x1_12 x1_13 x1_14 x1_15 x1_16 x1_17 x1_18 x1_19 x1_20 x1_21 x1_22 x1_23
  have W1 := PySem.W.mg_of X G x1_2
  have gI1 := PySem.W.mg_of X G i1
  have gD1 := PySem.W.mg_of X G d1_1
  have sD1 : KDi K w aD1 partsD := ⟨_, _, d1_2, (.cons (.cons (.cons (.cons (.cons (.cons .nil)))))), d1_3⟩
  have M : Names mg := { ValueError := PySem.W.mg_none_of X G z1, int := PySem.W.mg_none_of X G z2, reversed := PySem.W.mg_none_of X G z3, enumerate := PySem.W.mg_none_of X G z4, range := PySem.W.mg_none_of X G z5, len := PySem.W.mg_none_of X G z6, abs := PySem.W.mg_none_of X G z7, repr := PySem.W.mg_none_of X G z8, isinstance := PySem.W.mg_none_of X G z9, str := PySem.W.mg_none_of X G z10, tuple := PySem.W.mg_none_of X G z11 }
  intro s1 a0 ns0 hl0 base H kb gb e0 sq0
  have C_law_state_79 : Cal l.prog w K mg base 79 "_law_state" ["script"] (sp_law_state K) := ⟨f5, _, ok_law_state F5 M, b5, PySem.W.mg_of X G a5, k5⟩
  have C_law_take_79 : Cal l.prog w K mg base 79 "_law_take" ["state", "many"] (sp_law_take K) := ⟨f6, _, ok_law_take F6 M, b6, PySem.W.mg_of X G a6, k6⟩
  have C_law_take_17 : Cal l.prog w K mg base 17 "_law_take" ["state", "many"] (sp_law_take K) := ⟨f6, _, ok_law_take F6 M, b6, PySem.W.mg_of X G a6, k6⟩
  have C_law_formula_79 : Cal l.prog w K mg base 79 "_law_formula" ["state", "size", "most"] (sp_law_formula K 62) := ⟨f7, _, ok_law_formula (k := 17) F7 M C_law_take_17 b7 (PySem.W.mg_of X G a7) k7 62, b7, PySem.W.mg_of X G a7, k7⟩
  have C_law_words_79 : Cal l.prog w K mg base 79 "_law_words" ["formula"] (sp_law_words K 62) := ⟨f8, _, ok_law_words (k := 17) F8 M b8 (PySem.W.mg_of X G a8) k8 62, b8, PySem.W.mg_of X G a8, k8⟩
  have Cwrite_formula_79 : Cal l.prog w K mg base 79 "write_formula" ["formula"] (sp_write_formula) := ⟨f4, _, ok_write_formula F4 M, b4, PySem.W.mg_of X G a4, k4⟩
  have Cinteger_of_77 : Cal l.prog w K mg base 77 "integer_of" ["word"] (sp_integer_of) := ⟨f1, _, ok_integer_of F1 M gI1, b1, PySem.W.mg_of X G a1, k1⟩
  have C_fault_78 : Cal l.prog w K mg base 78 "_fault" ["words"] (sp_fault) := ⟨f2, _, ok_fault F2 M gD1 sD1 Cinteger_of_77, b2, PySem.W.mg_of X G a2, k2⟩
  have Cread_formula_79 : Cal l.prog w K mg base 79 "read_formula" ["text"] (sp_rfq eC1) := ⟨f3, _, quiet (ok_read_formula F3 M gD1 sD1 T1 (ok_bt (k := 76) F10) b10 C_fault_78), b3, PySem.W.mg_of X G a3, k3⟩
  exact oklaw F9 M C_law_state_79 C_law_take_79 C_law_formula_79 C_law_words_79 Cwrite_formula_79 Cread_formula_79 (show Room (79 + 1) callerA from ⟨rfl, by decide, by decide⟩) e0 (.of_eq rfl) sq0 hl0
end KL
open PySem PySem.W PyProof.Rows
set_option maxRecDepth 100000 in
set_option maxHeartbeats 0 in
theorem PySem.Challenge.cw_compasswork_k10_formula_texts_holds : PySem.Challenge.rw_compasswork_k10_formula_texts.Holds := by
  w_on; o_law; k_head; (case hw => w_witness2)
  k_fill
  refine KG.walk_here (l := PySem.Challenge.rw_compasswork_k10_formula_texts) (most := 63) rfl (by decide) rfl (fun w h Y => PySem.W.kIn_of Y) ?F
  case F =>
    intro w mg fa h KX G hmg
    refine' KL.all_mk KX G hmg ?a1 ?l1 ?c1 ?k1 ?a2 ?l2 ?c2 ?k2 ?a3 ?l3 ?c3 ?k3 ?a4 ?l4 ?c4 ?k4 ?a5 ?l5 ?c5 ?k5 ?a6 ?l6 ?c6 ?k6 ?a7 ?l7 ?c7 ?k7 ?a8 ?l8 ?c8 ?k8 ?a9 ?l9 ?c9 ?k9 ?x1_1 ?x1_2 ?x1_3 ?x1_4 ?x1_5 ?x1_6 ?x1_7 ?x1_8 ?x1_9 ?x1_10 ?x1_11 ?x1_12 ?x1_13 ?x1_14 ?x1_15 ?x1_16 ?x1_17 ?x1_18 ?x1_19 ?x1_20 ?x1_21 ?x1_22 ?x1_23 ?l10 ?c10 ?k10 ?z1 ?z2 ?z3 ?z4 ?z5 ?z6 ?z7 ?z8 ?z9 ?z10 ?z11 ?i1 ?d1_1 ?d1_2 ?d1_3
    (case a1 => first | k_is | rfl)
    (case l1 => first | k_is | rfl)
    (case c1 => first | k_is | rfl)
    (case k1 => first | k_is | rfl)
    (case a2 => first | k_is | rfl)
    (case l2 => first | k_is | rfl)
    (case c2 => first | k_is | rfl)
    (case k2 => first | k_is | rfl)
    (case a3 => first | k_is | rfl)
    (case l3 => first | k_is | rfl)
    (case c3 => first | k_is | rfl)
    (case k3 => first | k_is | rfl)
    (case a4 => first | k_is | rfl)
    (case l4 => first | k_is | rfl)
    (case c4 => first | k_is | rfl)
    (case k4 => first | k_is | rfl)
    (case a5 => first | k_is | rfl)
    (case l5 => first | k_is | rfl)
    (case c5 => first | k_is | rfl)
    (case k5 => first | k_is | rfl)
    (case a6 => first | k_is | rfl)
    (case l6 => first | k_is | rfl)
    (case c6 => first | k_is | rfl)
    (case k6 => first | k_is | rfl)
    (case a7 => first | k_is | rfl)
    (case l7 => first | k_is | rfl)
    (case c7 => first | k_is | rfl)
    (case k7 => first | k_is | rfl)
    (case a8 => first | k_is | rfl)
    (case l8 => first | k_is | rfl)
    (case c8 => first | k_is | rfl)
    (case k8 => first | k_is | rfl)
    (case a9 => first | k_is | rfl)
    (case l9 => first | k_is | rfl)
    (case c9 => first | k_is | rfl)
    (case k9 => first | k_is | rfl)
    (case x1_1 => first | k_is | rfl)
    (case x1_2 => first | k_is | rfl)
    (case x1_3 => first | k_is | rfl)
    (case x1_4 => first | k_is | rfl)
    (case x1_5 => first | k_is | rfl)
    (case x1_6 => first | k_is | rfl)
    (case x1_7 => first | k_is | rfl)
    (case x1_8 => first | k_is | rfl)
    (case x1_9 => first | k_is | rfl)
    (case x1_10 => first | k_is | rfl)
    (case x1_11 => first | k_is | rfl)
    (case x1_12 => first | k_is | rfl)
    (case x1_13 => first | k_is | rfl)
    (case x1_14 => first | k_is | rfl)
    (case x1_15 => first | k_is | rfl)
    (case x1_16 => first | k_is | rfl)
    (case x1_17 => first | k_is | rfl)
    (case x1_18 => first | k_is | rfl)
    (case x1_19 => first | k_is | rfl)
    (case x1_20 => first | k_is | rfl)
    (case x1_21 => first | k_is | rfl)
    (case x1_22 => first | k_is | rfl)
    (case x1_23 => first | k_is | rfl)
    (case l10 => first | k_is | rfl)
    (case c10 => first | k_is | rfl)
    (case k10 => first | k_is | rfl)
    (case z1 => first | k_is | rfl)
    (case z2 => first | k_is | rfl)
    (case z3 => first | k_is | rfl)
    (case z4 => first | k_is | rfl)
    (case z5 => first | k_is | rfl)
    (case z6 => first | k_is | rfl)
    (case z7 => first | k_is | rfl)
    (case z8 => first | k_is | rfl)
    (case z9 => first | k_is | rfl)
    (case z10 => first | k_is | rfl)
    (case z11 => first | k_is | rfl)
    (case i1 => first | k_is | rfl)
    (case d1_1 => first | k_is | rfl)
    (case d1_2 => first | k_is | rfl)
    (case d1_3 => first | k_is | rfl)

