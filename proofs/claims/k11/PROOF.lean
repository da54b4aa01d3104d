import PyProof.Rows.All
import Wide.All
import OpenK.AllK
import Wide.FinOn
import HandS.ForMost
import HandS.Wide
import HandS.Gcd
import HandS.IsInst
import KE.KExcIs
import HandS.ExcIs
import HandS.ExcInit
import HandS.ExcField
import HandS.ExcOwn
import HandS.WordsExc
import KE.GoesMore
import KE.GoesEnum
import HandS.Iter
import HandS.Text
import HandS.StrMore
import KE.IntTextLaws
import PyProof.Rows.RegStrFacts
import PyProof.StrLawsChain
import HandS.Dict
import HandS.More
import HandS.Exc
import PyProof.StrOps2
import PySem.Challenge.RW_compasswork_k11_faults_of_formula_texts
set_option Elab.async false
set_option linter.all false
set_option maxRecDepth 100000
/-! what the proofs of all laws share: own rules, heaps, the state of draws, comprehensions, rows of ints -/
namespace KG
open PySem PySem.Spec PyProof.Rows L2
def co (p : List Int) (i : Nat) : Int := p.getD i 0
theorem co_ge {p : List Int} {i : Nat} (h : p.length ≤ i) : co p i = 0 := by
  simp [co, List.getD_eq_getElem?_getD, List.getElem?_eq_none h]
theorem co_mem {row : List Int} {i : Nat} (h : i < row.length) : co row i ∈ row := by simp [co, List.getD_eq_getElem?_getD, h]
/-- // by any divisor but 0 of less than 9000 bits -/
def CDivZ (_ j : Int) : Prop := j ≠ 0 ∧ j.natAbs.log2 < 9000
/-- a def that may be called -/
structure Cal (P : Program) (w : World) (K : PySem.W.Frag) (mg : Str → Option Value) (base : Heap) (k : Nat) (x : Str) (ps : List Str) (sp : Sp) where
  f : Addr
  fd : FuncData
  ok : FnOk P w K mg base CX0 k f fd ps sp
  b : Binds K fd ps []
  m : mg x = some (.ref f)
  kp : PySem.W.keepIn K (.ref f) = true
section
variable {X : Cx}
theorem op_fdivZ : OpR X (binaryOp .FloorDiv) (rI CDivZ fun i j => .int (i.fdiv j)) :=
  opI fun _ _ _ _ _ _ _ hc q => floordiv_int hc.1 q (.inl (PyProof.noPylong_of_log2 hc.2))
end
/-! ### heaps -/
theorem same_new {H : Hp} {p : Addr} (h : H p = none) (o : HO) : Same H (upd H p o) := fun b u q => by rw [upd_ne (ne_of_none q h)]; exact q
/-- all but what stands at p is as it was -/
def But (p : Addr) (H H' : Hp) : Prop := ∀ b o, b ≠ p → H b = some o → H' b = some o
theorem But.refl (p : Addr) (H : Hp) : But p H H := fun _ _ _ h => h
theorem But.trans {p : Addr} {H H1 H2 : Hp} (a : But p H H1) (b : But p H1 H2) : But p H H2 := fun c o n h => b c o n (a c o n h)
theorem But.of {p : Addr} {H H' : Hp} (s : Same H H') : But p H H' := fun b o _ h => s b o h
theorem But.put {p : Addr} (H : Hp) (o : HO) : But p H (upd H p o) := fun b u n h => by rw [upd_ne n]; exact h
theorem But.seq {K : PySem.W.Frag} {p : Addr} {H H' : Hp} {a : Addr} {xs : List V} (e : But p H H') (n : a ≠ p) (h : SqL K H a xs) : SqL K H' a xs := by
  rcases h with (h | ⟨o, h⟩) | h
  · exact .inl (.inl (e _ _ n h))
  · exact .inl (.inr ⟨o, e _ _ n h⟩)
  · exact .inr h
theorem But.seqT {K : PySem.W.Frag} {p : Addr} {H H' : Hp} {a : Addr} {xs : List V} (e : But p H H') (n : a ≠ p) (h : SqT K H a xs) : SqT K H' a xs := by
  rcases h with (h | ⟨o, h⟩) | h
  · exact .inl (.inl (e _ _ n h))
  · exact .inl (.inr ⟨o, e _ _ n h⟩)
  · exact .inr h
theorem Same.seqT {K : PySem.W.Frag} {H H' : Hp} {a : Addr} {xs : List V} (e : Same H H') (h : SqT K H a xs) : SqT K H' a xs := by
  rcases h with (h | ⟨o, h⟩) | h
  · exact .inl (.inl (e _ _ h))
  · exact .inl (.inr ⟨o, e _ _ h⟩)
  · exact .inr h
/-! ### the state that numbers are drawn from -/
def stL (a e : Addr) (r c m : Int) : List V := [.ref a, .int r, .int c, .int m, .ref e, .int 0, .int 0, .int 0]
def StOk (ns : List Int) (r c m : Int) : Prop := (m = 1 ∧ 0 < ns.length) ∨ (m = 0 ∧ 0 ≤ r ∧ 0 ≤ c)
theorem upd_self {H : Hp} {p : Addr} {o : HO} (h : H p = some o) : upd H p o = H := by
  funext b
  by_cases e : b = p
  · rw [e, upd_same, h]
  · rw [upd_ne e]
theorem same_upd {H H' : Hp} (s : Same H H') (p : Addr) (o : HO) : Same (upd H p o) (upd H' p o) := fun b u h => by
  by_cases e : b = p
  · rw [e, upd_same] at h ⊢; exact h
  · rw [upd_ne e] at h ⊢; exact s b u h
theorem but_upd {p : Addr} {H H' : Hp} (s : But p H H') (o : HO) : Same (upd H p o) (upd H' p o) := fun b u h => by
  by_cases e : b = p
  · rw [e, upd_same] at h ⊢; exact h
  · rw [upd_ne e] at h ⊢; exact s b u e h
/-- a list that is to be read whatever stands at p -/
def SqO (K : PySem.W.Frag) (H : Hp) (p a : Addr) (xs : List V) : Prop := ∀ o, SqL K (upd H p o) a xs
theorem SqO.new {K : PySem.W.Frag} {H : Hp} {p a : Addr} {xs : List V} (h : SqL K H a xs) (n : H p = none) : SqO K H p a xs := fun o => (same_new n o).seq h
theorem SqO.now {K : PySem.W.Frag} {H : Hp} {p a : Addr} {xs : List V} {o : HO} (h : SqO K H p a xs) (e : H p = some o) : SqL K H a xs := by
  have := h o
  rwa [upd_self e] at this
theorem SqO.but {K : PySem.W.Frag} {H H' : Hp} {p a : Addr} {xs : List V} (h : SqO K H p a xs) (s : But p H H') : SqO K H' p a xs := fun o => (but_upd s o).seq (h o)
def StX (H : Hp) (p a : Addr) (ns : List Int) : Prop := ∃ (e : Addr) (r c m : Int), H p = some (.lst (stL a e r c m)) ∧ StOk ns r c m
theorem StX.but {H H' : Hp} {p a : Addr} {ns : List Int} (h : StX H p a ns) (e : H' p = H p) : StX H' p a ns := by
  obtain ⟨x, r, c, m, h1, h2⟩ := h
  exact ⟨x, r, c, m, e ▸ h1, h2⟩
theorem StX.same {H H' : Hp} {p a : Addr} {ns : List Int} (h : StX H p a ns) (s : Same H H') : StX H' p a ns := by
  obtain ⟨x, r, c, m, h1, h2⟩ := h
  exact ⟨x, r, c, m, s _ _ h1, h2⟩
theorem at_n {ns : List Int} {i : Int} (h0 : 0 ≤ i) (h1 : i < ns.length) : ∃ v : Int, atI (ns.map V.int) i = some (.int v) := by
  obtain ⟨k, rfl⟩ := Int.eq_ofNat_of_zero_le h0
  have hk : k < ns.length := by omega
  exact ⟨ns[k], atI_nat (by rw [List.getElem?_map, List.getElem?_eq_getElem hk]; rfl)⟩
/-! ### comprehensions whose step leaves the objects as they are -/
section
variable {K : PySem.W.Frag} {a D : Addr} {xs : List V} {g : TG} {te : TE} {vs : List Nat} {σ : L2.St} {H1 : Hp} {Qd : Hp → Prop}
theorem grown {H : Hp} {D : Addr} {xs : List V} {G : V → V} {i : Nat} {x : V} (hx : xs[i]? = some x) (hl : xs.length ≤ 1000) : (((xs.take i).map G).length < sizeLine) ∧ ((xs.take i).map G ++ [G x] = (xs.take (i + 1)).map G) := by
  have hi : i < xs.length := (List.getElem?_eq_some_iff.mp hx).1
  refine ⟨small1000 (by rw [List.length_map, List.length_take]; omega), ?_⟩
  rw [List.take_add_one, hx, List.map_append]; rfl
theorem comp_list (G : V → V) (hx : SqL K H1 a xs) (hD : H1 D = none) (hl : xs.length ≤ 1000)
    (hs : ∀ (i : Nat) (x : V) (H : Hp) (Nx : V → Hp → Prop), xs[i]? = some x → Same H1 H → Nx (G x) H → g x (wipe σ vs) H fun σ2 H2 => wipe σ2 vs = wipe σ vs ∧ te σ2 H2 Nx)
    (hd : ∀ H, Same H1 H → H D = some (.lst (xs.map G)) → Qd H) :
    ∃ W : Nat → Nat → Hp → Prop, (∃ m, W 0 m (upd H1 D (.lst []))) ∧ ∀ i m H, W i m H →
      ((Itl K a).stop i H ∧ Qd H) ∨ ((Itl K a).go i H ∧ ∃ Nx : Hp → Prop, (∀ H', Nx H' → ∃ m', m' < m ∧ W (i + 1) m' H') ∧ ∀ x H', (Itl K a).yld i H x H' → g x (wipe σ vs) H' fun σ2 H2 => wipe σ2 vs = wipe σ vs ∧ tYes σ2 H2 fun b H3 =>
        if b = true then te σ2 H3 fun y H4 => ∃ acc, H4 D = some (.lst acc) ∧ acc.length < sizeLine ∧ Nx (upd H4 D (.lst (acc ++ [y]))) else Nx H3) := by
  refine lc_list (xs := xs) (fun i H => Same H1 H ∧ H D = some (.lst ((xs.take i).map G))) ⟨same_new hD _, upd_same⟩ (fun i H _ h => h.1.seq hx) (fun i x H hix h => ?_) (fun H h => hd H h.1 (by rw [h.2, List.take_length]))
  have hg := grown (H := H) (D := D) (G := G) hix hl
  have := hs i x H (fun y H4 => ∃ acc, H4 D = some (.lst acc) ∧ acc.length < sizeLine ∧ (Same H1 (upd H4 D (.lst (acc ++ [y]))) ∧ (upd H4 D (.lst (acc ++ [y]))) D = some (.lst ((xs.take (i + 1)).map G)))) hix h.1
    ⟨_, h.2, hg.1, fun b o e => by rw [upd_ne (ne_of_none e hD)]; exact h.1 b o e, by rw [upd_same, hg.2]⟩
  exact this
theorem comp_tup (G : V → V) (hx : SqT K H1 a xs) (hD : H1 D = none) (hl : xs.length ≤ 1000)
    (hs : ∀ (i : Nat) (x : V) (H : Hp) (Nx : V → Hp → Prop), xs[i]? = some x → Same H1 H → Nx (G x) H → g x (wipe σ vs) H fun σ2 H2 => wipe σ2 vs = wipe σ vs ∧ te σ2 H2 Nx)
    (hd : ∀ H, Same H1 H → H D = some (.lst (xs.map G)) → Qd H) :
    ∃ W : Nat → Nat → Hp → Prop, (∃ m, W 0 m (upd H1 D (.lst []))) ∧ ∀ i m H, W i m H →
      ((Itt K a).stop i H ∧ Qd H) ∨ ((Itt K a).go i H ∧ ∃ Nx : Hp → Prop, (∀ H', Nx H' → ∃ m', m' < m ∧ W (i + 1) m' H') ∧ ∀ x H', (Itt K a).yld i H x H' → g x (wipe σ vs) H' fun σ2 H2 => wipe σ2 vs = wipe σ vs ∧ tYes σ2 H2 fun b H3 =>
        if b = true then te σ2 H3 fun y H4 => ∃ acc, H4 D = some (.lst acc) ∧ acc.length < sizeLine ∧ Nx (upd H4 D (.lst (acc ++ [y]))) else Nx H3) := by
  refine lc_tup (xs := xs) (fun i H => Same H1 H ∧ H D = some (.lst ((xs.take i).map G))) ⟨same_new hD _, upd_same⟩ (fun i H _ h => Same.seqT h.1 hx) (fun i x H hix h => ?_) (fun H h => hd H h.1 (by rw [h.2, List.take_length]))
  have hg := grown (H := H) (D := D) (G := G) hix hl
  have := hs i x H (fun y H4 => ∃ acc, H4 D = some (.lst acc) ∧ acc.length < sizeLine ∧ (Same H1 (upd H4 D (.lst (acc ++ [y]))) ∧ (upd H4 D (.lst (acc ++ [y]))) D = some (.lst ((xs.take (i + 1)).map G)))) hix h.1
    ⟨_, h.2, hg.1, fun b o e => by rw [upd_ne (ne_of_none e hD)]; exact h.1 b o e, by rw [upd_same, hg.2]⟩
  exact this
end
/-- a list or a tuple -/
def Sq (K : PySem.W.Frag) (H : Hp) (a : Addr) (xs : List V) : Prop := SqL K H a xs ∨ SqT K H a xs
theorem Sq.same {K : PySem.W.Frag} {H H' : Hp} {a : Addr} {xs : List V} (h : Sq K H a xs) (s : Same H H') : Sq K H' a xs := h.elim (fun h => .inl (s.seq h)) fun h => .inr (Same.seqT s h)
theorem Sq.but {K : PySem.W.Frag} {p : Addr} {H H' : Hp} {a : Addr} {xs : List V} (h : Sq K H a xs) (n : a ≠ p) (s : But p H H') : Sq K H' a xs := h.elim (fun h => .inl (s.seq n h)) fun h => .inr (s.seqT n h)
/-! ### ints in lists -/
theorem map_at {row : List Int} {i : Nat} (h : i < row.length) : (row.map V.int)[i]? = some (.int (co row i)) := by
  rw [List.getElem?_map, List.getElem?_eq_getElem h]
  simp [co, List.getD_eq_getElem?_getD, h]
theorem map_atI {row : List Int} {i : Int} (h0 : 0 ≤ i) (h : i < row.length) : atI (row.map V.int) i = some (.int (co row i.toNat)) := by
  obtain ⟨k, rfl⟩ := Int.eq_ofNat_of_zero_le h0
  exact atI_nat (map_at (by omega))
theorem map_last {row : List Int} (h : row ≠ []) : atI (row.map V.int) (-1) = some (.int (co row (row.length - 1))) := by
  have hp := List.length_pos_iff.mpr h
  have e : ixN (row.map V.int).length (-1) = some (row.length - 1) := by
    unfold ixN
    rw [if_neg (by decide), if_pos (by rw [List.length_map]; omega), List.length_map]
    congr 1; omega
  unfold atI
  rw [e]
  exact map_at (by omega)
theorem map_mem {row : List Int} {i : Nat} {x : V} (h : (row.map V.int)[i]? = some x) : i < row.length ∧ x = .int (co row i) := by
  have hi : i < row.length := by
    have := (List.getElem?_eq_some_iff.mp h).1
    rwa [List.length_map] at this
  refine ⟨hi, ?_⟩
  rw [map_at hi] at h
  exact (Option.some.inj h).symm
theorem log_small {z : Int} {n m : Nat} (h : z.natAbs < 2 ^ n) (h0 : 0 < n) (hm : n ≤ m) : z.natAbs.log2 < m := Nat.lt_of_lt_of_le (PySem.Flt.log2_lt_of h0 h) hm
section
variable {D : Addr} {g : TG} {te : TE} {vs : List Nat} {σ : L2.St} {H1 : Hp} {Qd : Hp → Prop}
theorem comp_range (G : Nat → V) (n : Nat) (hD : H1 D = none) (hl : n ≤ 1000)
    (hs : ∀ (i : Nat) (H : Hp) (Nx : V → Hp → Prop), i < n → Same H1 H → Nx (G i) H → g (.int (0 + (i : Nat))) (wipe σ vs) H fun σ2 H2 => wipe σ2 vs = wipe σ vs ∧ te σ2 H2 Nx)
    (hd : ∀ H, Same H1 H → H D = some (.lst ((List.range n).map G)) → Qd H) :
    ∃ W : Nat → Nat → Hp → Prop, (∃ m, W 0 m (upd H1 D (.lst []))) ∧ ∀ i m H, W i m H →
      ((Itr 0 n).stop i H ∧ Qd H) ∨ ((Itr 0 n).go i H ∧ ∃ Nx : Hp → Prop, (∀ H', Nx H' → ∃ m', m' < m ∧ W (i + 1) m' H') ∧ ∀ x H', (Itr 0 n).yld i H x H' → g x (wipe σ vs) H' fun σ2 H2 => wipe σ2 vs = wipe σ vs ∧ tYes σ2 H2 fun b H3 =>
        if b = true then te σ2 H3 fun y H4 => ∃ acc, H4 D = some (.lst acc) ∧ acc.length < sizeLine ∧ Nx (upd H4 D (.lst (acc ++ [y]))) else Nx H3) := by
  refine lc_range (lo := 0) (n := n) (fun i H => Same H1 H ∧ H D = some (.lst ((List.range i).map G))) ⟨same_new hD _, upd_same⟩ (fun i H hi h => ?_) (fun H h => hd H h.1 h.2)
  have := hs i H (fun y H4 => ∃ acc, H4 D = some (.lst acc) ∧ acc.length < sizeLine ∧ (Same H1 (upd H4 D (.lst (acc ++ [y]))) ∧ (upd H4 D (.lst (acc ++ [y]))) D = some (.lst ((List.range (i + 1)).map G)))) hi h.1
    ⟨_, h.2, small1000 (by rw [List.length_map, List.length_range]; omega), fun b o e => by rw [upd_ne (ne_of_none e hD)]; exact h.1 b o e, by rw [upd_same, List.range_succ, List.map_append]; rfl⟩
  exact this
end
/-- an item of a list or a tuple of ints -/
theorem rix {K : PySem.W.Frag} {H : Hp} {a : Addr} {row : List Int} {i : Int} {Q : VK} (h : Sq K H a (row.map V.int)) (h0 : 0 ≤ i) (h1 : i < row.length) (q : Q (.int (co row i.toNat)) H) : rIx K (.ref a) (.int i) H Q :=
  h.elim (fun h => .inl ⟨a, _, _, _, rfl, rfl, h, map_atI h0 h1, q⟩) fun h => .inr (.inl ⟨a, _, _, _, rfl, rfl, h, map_atI h0 h1, q⟩)
theorem set_map {p : List Int} {k : Nat} {z : Int} : (p.map V.int).set k (.int z) = (p.set k z).map V.int := by rw [List.map_set]
theorem ixN_nat {n : Nat} {k : Int} (h0 : 0 ≤ k) (h : k < n) : ixN n k = some k.toNat := by
  unfold ixN; rw [if_pos h0, if_pos h]
theorem cut_to (xs : List V) (n : Nat) (h : n ≤ xs.length) : cutV xs none (some (n : Int)) = xs.take n := by
  unfold cutV
  rw [HT.sIx_none, HT.sIx_nat, Nat.min_eq_left h, List.drop_zero, Nat.sub_zero]
def rLen (K : PySem.W.Frag) : List V → Hp → VK → Prop := fun xs H Q => ∃ p ys, xs = [.ref p] ∧ (SqL K H p ys ∨ SqT K H p ys) ∧ Q (.int ys.length) H
/-! the rules that read the written part, said with it: for use within a comprehension -/
section
variable {X : Cx} {K : PySem.W.Frag}
theorem call_lenK (e : X.K = K) : CallR X (.builtin "len") (rLen K) := by subst e; exact call_len_seq
theorem ix_seqK (e : X.K = K) : IxR X (rIx K) := by subst e; exact ix_seq
theorem ix_listK (e : X.K = K) : IxR X (rIxL K) := by subst e; exact ix_list
theorem ix_tupK (e : X.K = K) : IxR X (rIxT K) := by subst e; exact ix_tup
end
theorem same_put {H H' : Hp} {D : Addr} {o : HO} (s : Same H H') (hD : H D = none) : Same H (upd H' D o) := fun b u h => by
  rw [upd_ne (ne_of_none h hD)]; exact s b u h
/-! rows of ints as data -/
theorem dp_all {K : PySem.W.Frag} {H : Hp} : ∀ r : List Int, DpAll K H (r.map V.int) (r.map PyData.int)
  | [] => .nil
  | x :: r => .cons (.int x) (dp_all r)
theorem lay_all : ∀ r : List Int, PyData.canLayAll0 (r.map PyData.int) = true
  | [] => by simp [PyData.canLayAll0]
  | x :: r => by simp [PyData.canLayAll0, PyData.canLay0, lay_all r]
theorem deep_all : ∀ r : List Int, PyData.depthAll (r.map PyData.int) = 0
  | [] => by simp [PyData.depthAll]
  | x :: r => by simp [PyData.depthAll, PyData.depth, deep_all r]
theorem shaped_l (r : List Int) : SeqAt.shaped (.list (r.map PyData.int)) = true := by
  simp [SeqAt.shaped, PyData.canLay0, lay_all, PyData.depth, deep_all]
theorem shaped_t (r : List Int) : SeqAt.shaped (.tuple (r.map PyData.int)) = true := by
  simp [SeqAt.shaped, PyData.canLay0, lay_all, PyData.depth, deep_all]
theorem eqv_all : ∀ r q : List Int, PyData.eqvAll (r.map PyData.int) (q.map PyData.int) = decide (r = q)
  | [], [] => by simp [PyData.eqvAll]
  | [], y :: q => by simp [PyData.eqvAll]
  | x :: r, [] => by simp [PyData.eqvAll]
  | x :: r, y :: q => by
    have ih := eqv_all r q
    show (PyData.eqv (.int x) (.int y) && PyData.eqvAll (r.map PyData.int) (q.map PyData.int)) = _
    rw [ih]
    have e : PyData.eqv (.int x) (.int y) = (x == y) := by simp [PyData.eqv]
    rw [e, Bool.eq_iff_iff]
    simp
theorem eqv_l (r q : List Int) : PyData.eqv (.list (r.map PyData.int)) (.list (q.map PyData.int)) = decide (r = q) := by
  rw [← eqv_all]; simp [PyData.eqv]
theorem eqv_t (r q : List Int) : PyData.eqv (.tuple (r.map PyData.int)) (.tuple (q.map PyData.int)) = decide (r = q) := by
  rw [← eqv_all]; simp [PyData.eqv]
/-- the reading of a comparison of two rows -/
theorem eq_lists {K : PySem.W.Frag} {H : Hp} {a b : Addr} {r q : List Int} {Q : VK} (h1 : SqL K H a (r.map V.int)) (h2 : SqL K H b (q.map V.int)) (k : Q (.bl (decide (r = q))) H) : rEqD K (.ref a) (.ref b) H Q :=
  ⟨_, _, .lst h1 (dp_all r), .lst h2 (dp_all q), shaped_l r, shaped_l q, by rw [eqv_l]; exact k⟩
theorem eq_tups {K : PySem.W.Frag} {H : Hp} {a b : Addr} {r q : List Int} {Q : VK} (h1 : SqT K H a (r.map V.int)) (h2 : SqT K H b (q.map V.int)) (k : Q (.bl (decide (r = q))) H) : rEqD K (.ref a) (.ref b) H Q :=
  ⟨_, _, .tup h1 (dp_all r), .tup h2 (dp_all q), shaped_t r, shaped_t q, by rw [eqv_t]; exact k⟩
theorem ne_tups {K : PySem.W.Frag} {H : Hp} {a b : Addr} {r q : List Int} {Q : VK} (h1 : SqT K H a (r.map V.int)) (h2 : SqT K H b (q.map V.int)) (k : Q (.bl (!decide (r = q))) H) : rNeD K (.ref a) (.ref b) H Q :=
  ⟨_, _, .tup h1 (dp_all r), .tup h2 (dp_all q), shaped_t r, shaped_t q, by rw [eqv_t]; exact k⟩
theorem call_isiK {X : Cx} {K : PySem.W.Frag} (e : X.K = K) : CallR X (.builtin "isinstance") (rIsi K) := by subst e; exact call_isi
/-- a comprehension over a list whose step may make new objects -/
theorem comp_listS {K : PySem.W.Frag} {a D : Addr} {xs : List V} {g : TG} {te : TE} {vs : List Nat} {σ : L2.St} {H1 : Hp} {Qd : Hp → Prop} (R : V → Prop) (hx : SqL K H1 a xs) (hD : H1 D = none) (hl : xs.length ≤ 1000)
    (hs : ∀ (i : Nat) (x : V) (H : Hp) (Nx : V → Hp → Prop), xs[i]? = some x → Same H1 H → (∀ y H', Same H H' → R y → Nx y H') → g x (wipe σ vs) H fun σ2 H2 => wipe σ2 vs = wipe σ vs ∧ te σ2 H2 Nx)
    (hd : ∀ H ys, Same H1 H → H D = some (.lst ys) → ys.length = xs.length → (∀ y ∈ ys, R y) → Qd H) :
    ∃ W : Nat → Nat → Hp → Prop, (∃ m, W 0 m (upd H1 D (.lst []))) ∧ ∀ i m H, W i m H →
      ((Itl K a).stop i H ∧ Qd H) ∨ ((Itl K a).go i H ∧ ∃ Nx : Hp → Prop, (∀ H', Nx H' → ∃ m', m' < m ∧ W (i + 1) m' H') ∧ ∀ x H', (Itl K a).yld i H x H' → g x (wipe σ vs) H' fun σ2 H2 => wipe σ2 vs = wipe σ vs ∧ tYes σ2 H2 fun b H3 =>
        if b = true then te σ2 H3 fun y H4 => ∃ acc, H4 D = some (.lst acc) ∧ acc.length < sizeLine ∧ Nx (upd H4 D (.lst (acc ++ [y]))) else Nx H3) := by
  refine lc_list (xs := xs) (fun i H => Same H1 H ∧ ∃ ys, H D = some (.lst ys) ∧ ys.length = i ∧ ∀ y ∈ ys, R y) ⟨same_new hD _, [], upd_same, rfl, fun y h => by cases h⟩ (fun i H _ h => h.1.seq hx) (fun i x H hix h => ?_) (fun H h => ?_)
  · obtain ⟨sm, ys, e, l, r⟩ := h
    have hi : i < xs.length := (List.getElem?_eq_some_iff.mp hix).1
    have := hs i x H (fun y H4 => ∃ acc, H4 D = some (.lst acc) ∧ acc.length < sizeLine ∧ (Same H1 (upd H4 D (.lst (acc ++ [y]))) ∧ ∃ ys, (upd H4 D (.lst (acc ++ [y]))) D = some (.lst ys) ∧ ys.length = i + 1 ∧ ∀ y ∈ ys, R y)) hix sm
      (fun y H' s2 hr => ⟨ys, s2 _ _ e, small1000 (by omega), same_put (sm.trans s2) hD, ys ++ [y], upd_same, by rw [List.length_append, l]; rfl, fun z hz => by
        rcases List.mem_append.mp hz with hz | hz
        · exact r z hz
        · rw [List.mem_singleton.mp hz]; exact hr⟩)
    exact this
  · obtain ⟨sm, ys, e, l, r⟩ := h
    exact hd H ys sm e l r
theorem bools : ∀ ys : List V, (∀ y ∈ ys, ∃ b, y = V.bl b) → ∃ bs : List Bool, ys = bs.map V.bl
  | [], _ => ⟨[], rfl⟩
  | y :: ys, h => by
    obtain ⟨b, rfl⟩ := h y List.mem_cons_self
    obtain ⟨bs, rfl⟩ := bools ys fun z hz => h z (List.mem_cons_of_mem _ hz)
    exact ⟨b :: bs, rfl⟩
theorem StX.ne {H : Hp} {p a c : Addr} {ns : List Int} (X : StX H p a ns) (n : H c = none) : c ≠ p := fun z => by
  obtain ⟨_, _, _, _, e, _⟩ := X
  rw [z, e] at n; cases n
end KG

/-! steps of drawings, as the laws make them -/
namespace KG
open PySem PySem.Spec PyProof.Rows L2
structure Stp where
  w : Str
  ns : List Int
def stV (s : Stp) : List V := .str s.w :: s.ns.map V.int
/-- the values are the steps, each a tuple that stands -/
inductive SAt (H : Hp) : List V → List Stp → Prop
  | nil : SAt H [] []
  | cons {t : Addr} {s : Stp} {vs : List V} {ss : List Stp} : H t = some (.tup (stV s)) → SAt H vs ss → SAt H (.ref t :: vs) (s :: ss)
section
variable {H H' : Hp} {vs us : List V} {ss rs : List Stp}
theorem SAt.len (h : SAt H vs ss) : vs.length = ss.length := by
  induction h with
  | nil => rfl
  | cons _ _ ih => rw [List.length_cons, List.length_cons, ih]
theorem SAt.mono (h : SAt H vs ss) (k : ∀ t xs, H t = some (.tup xs) → H' t = some (.tup xs)) : SAt H' vs ss := by
  induction h with
  | nil => exact .nil
  | cons e _ ih => exact .cons (k _ _ e) ih
theorem SAt.same (h : SAt H vs ss) (s : Same H H') : SAt H' vs ss := h.mono fun t xs e => s t _ e
theorem SAt.put {r : Addr} {xs ys : List V} (h : SAt H vs ss) (e : H r = some (.lst xs)) : SAt (upd H r (.lst ys)) vs ss := h.mono fun t zs e2 => by
  rw [upd_ne (ne_of e2 e (by intro z; cases z))]; exact e2
theorem SAt.but {p a : Addr} {ns : List Int} (h : SAt H vs ss) (X : StX H p a ns) (b : But p H H') : SAt H' vs ss := h.mono fun t xs e => b _ _ (fun z => by
  obtain ⟨_, _, _, _, e2, _⟩ := X
  rw [z, e2] at e; cases e) e
theorem SAt.get : ∀ {vs : List V} {ss : List Stp} {i : Nat} {s : Stp}, SAt H vs ss → ss[i]? = some s → ∃ t, vs[i]? = some (.ref t) ∧ H t = some (.tup (stV s))
  | _, _, i, s, .nil, h => by simp at h
  | _, _, 0, s, .cons e _, h => by simp at h; subst h; exact ⟨_, rfl, e⟩
  | _, _, i + 1, s, .cons _ r, h => by
    obtain ⟨t, h1, h2⟩ := SAt.get (i := i) (s := s) r (by simpa using h)
    exact ⟨t, by simpa using h1, h2⟩
theorem SAt.append (h : SAt H vs ss) (k : SAt H us rs) : SAt H (vs ++ us) (ss ++ rs) := by
  induction h with
  | nil => exact k
  | cons e _ ih => exact .cons e ih
theorem SAt.take : ∀ {vs : List V} {ss : List Stp} (n : Nat), SAt H vs ss → SAt H (vs.take n) (ss.take n)
  | _, _, 0, _ => .nil
  | _, _, n + 1, .nil => .nil
  | _, _, n + 1, .cons e r => .cons e (SAt.take n r)
theorem SAt.drop : ∀ {vs : List V} {ss : List Stp} (n : Nat), SAt H vs ss → SAt H (vs.drop n) (ss.drop n)
  | _, _, 0, h => h
  | _, _, n + 1, .nil => .nil
  | _, _, n + 1, .cons _ r => SAt.drop n r
theorem SAt.rep {t : Addr} {s : Stp} (e : H t = some (.tup (stV s))) : ∀ n, SAt H (List.replicate n (.ref t)) (List.replicate n s)
  | 0 => .nil
  | n + 1 => .cons e (SAt.rep e n)
end
/-- whether a step of this word gives a point -/
def isPt (w : Str) : Bool := inV (.str w) [.str "point", .str "meet"]
/-- the forms of steps -/
def SForm (s : Stp) : Prop := (s.w = "point" ∧ s.ns.length = 2) ∨ (s.w = "line" ∧ s.ns.length = 2) ∨ (s.w = "circle" ∧ s.ns.length = 3) ∨ (s.w = "meet" ∧ s.ns.length = 3)
/-- i is the place of a step that gives a point (b), or a figure (not b) -/
def Nm1 (ss : List Stp) (b : Bool) (i : Int) : Prop := 0 ≤ i ∧ ∃ s, ss[i.toNat]? = some s ∧ isPt s.w = b
/-- a step that is drawn by the rules behind ss, its integers within m -/
def SNew (ss : List Stp) (m : Int) (s : Stp) : Prop :=
  (∃ x y, s = ⟨"point", [x, y]⟩ ∧ -m ≤ x ∧ x ≤ m ∧ -m ≤ y ∧ y ≤ m) ∨ (∃ i j, s = ⟨"line", [i, j]⟩ ∧ Nm1 ss true i ∧ Nm1 ss true j) ∨
  (∃ i j k, s = ⟨"circle", [i, j, k]⟩ ∧ Nm1 ss true i ∧ Nm1 ss true j ∧ Nm1 ss true k) ∨ (∃ i j w, s = ⟨"meet", [i, j, w]⟩ ∧ Nm1 ss false i ∧ Nm1 ss false j ∧ 0 ≤ w ∧ w ≤ 1)
theorem SNew.form {ss : List Stp} {m : Int} {s : Stp} (h : SNew ss m s) : SForm s := by
  rcases h with ⟨x, y, rfl, _⟩ | ⟨i, j, rfl, _⟩ | ⟨i, j, k, rfl, _⟩ | ⟨i, j, w, rfl, _⟩
  · exact .inl ⟨rfl, rfl⟩
  · exact .inr (.inl ⟨rfl, rfl⟩)
  · exact .inr (.inr (.inl ⟨rfl, rfl⟩))
  · exact .inr (.inr (.inr ⟨rfl, rfl⟩))
end KG

namespace KG
open PySem PySem.Spec PyProof.Rows L2
theorem cut_from (xs : List V) (n : Nat) (h : n ≤ xs.length) : cutV xs (some (n : Int)) none = xs.drop n := by
  unfold cutV
  rw [HT.sIx_none, HT.sIx_nat, Nat.min_eq_left h]
  exact List.take_of_length_le (by rw [List.length_drop]; omega)
theorem not_whole {n : Nat} {i : Nat} {hi : Option Int} (h : 0 < i) (k : 0 < n) : ¬ (HT.sIx n 0 (some (i : Int)) = 0 ∧ HT.sIx n n hi = n) := fun z => by
  have e : HT.sIx n 0 (some (i : Int)) = min i n := HT.sIx_nat n 0 i
  rw [e] at z
  have := z.1
  omega
end KG

/-! own errors whose __init__ stores one field -/
namespace KG
open PySem PySem.Spec PyProof.Rows L2
/-- isinstance(e, c), e the exception that the suite holds, with fields of its own -/
def rIsED (K : PySem.W.Frag) (D a : Addr) (cls : Value) (d : Option Addr) : List V → Hp → VK → Prop := fun xs H Q => cls = .ref D ∧ ∃ (dd : Addr) (fs : List (Str × V)) (c : V) (cv : Value) (b : Bool), d = some dd ∧ H dd = some (.xd fs) ∧ xs = [.ref a, c] ∧ (∀ u, RelV c u → u = cv) ∧ PySem.W.kitOne K (.ref D) cv = some b ∧ Q (.bl b) H
theorem call_isED {X : Cx} {a D : Addr} {oe : Obj} {cls : Value} {d : Option Addr} {pn : List (Addr × Obj)} (C : ExcC X.K D) (hcl : (PySem.W.clsIn X.K D).isSome = true) (hz : Zc cls d oe) (hf : ∃ vs, oe.data = .fields vs) : CallR (X.suite a ((a, oe) :: pn)) (.builtin "isinstance") (rIsED X.K D a cls d) := by
  intro pins s σ H xs us Q I r h
  obtain ⟨rfl, dd, fs, c, cv, b, rfl, ed, rfl, hcv, e, q⟩ := h
  obtain ⟨u1, u2, rfl, r1, r2⟩ := vals2 r
  cases (show u1 = Value.ref a from r1)
  have ec := hcv _ r2
  subst ec
  obtain ⟨hget, _⟩ := I.pin (a, oe) (List.mem_append.mpr (.inl List.mem_cons_self))
  obtain ⟨vs, hv⟩ := hf
  have hx : ObjOk X.prog X.w H s.heap dd (.xd fs) := I.hok dd _ ed
  obtain ⟨mA, hns, _⟩ := hx
  obtain ⟨od, ho, _⟩ := lookIn_ns hns
  have J : PySem.W.InstAt s.heap a oe D (some od) := ⟨hget, hz.1, by unfold PySem.W.notCls; rw [hv] <;> rfl, by rw [hz.2]; exact ho⟩
  exact PySem.W.kia_one (PySem.W.kitx_exc hcl C.hg C.hk C.hs C.ha C.hn C.ht C.hm) I.kIn J e (fun z => nomatch z) fun tk => ⟨.bl b, H, I.kept (t' := tk) fun _ _ z => z, rfl, q⟩
/-- what the written part says of an own error of the name x with the field f, below the error at W, below ValueError -/
structure OwnE (K : PySem.W.Frag) (mg : Str → Option Value) (x f : Str) (C fI W : Addr) : Prop where
  gC : mg x = some (.ref C)
  oex : OexC K C
  xf : XfC K C
  is : ExcC K C
  cl : (PySem.W.clsIn K C).isSome = true
  noF : PySem.W.findIn K (.ref C) f = some none
  iC : PySem.W.findIn K (.ref C) "__init__" = some (some (.ref fI))
  tI : PySem.W.typeIn K (.ref fI) = some (.type "function")
  exm : PySem.W.exmOne K (.ref C) (.ref C) = some true
  kW : PySem.W.kitOne K (.ref C) (.ref W) = some true
  kV : PySem.W.kitOne K (.ref C) (.type "ValueError") = some true
theorem kit_ref {K : PySem.W.Frag} {t : Value} {W : Addr} (h1 : PySem.W.isClsIn K W = true) (h2 : PySem.W.typeIn K (.ref W) = some (.type "type")) (h3 : PySem.W.subIn K t (.ref W) = some true) : PySem.W.kitOne K t (.ref W) = some true := by
  have h1' : (PySem.W.clsIn K W).isSome = true := h1
  unfold PySem.W.kitOne
  by_cases z : (t == .ref W) = true
  · rw [if_pos z]
  · rw [if_neg z]
    show (if ((PySem.W.clsIn K W).isSome && PySem.W.typeIn K (.ref W) == some (.type "type")) = true then PySem.W.subIn K t (.ref W) else none) = some true
    rw [if_pos (by rw [h1', h2] <;> rfl), h3]
theorem kit_val {K : PySem.W.Frag} {C : Addr} (h3 : PySem.W.subIn K (.ref C) (.type "ValueError") = some true) : PySem.W.kitOne K (.ref C) (.type "ValueError") = some true := by
  unfold PySem.W.kitOne
  rw [if_neg (show ¬ (Value.ref C == Value.type "ValueError") = true from fun z => nomatch (beq_iff_eq.mp z))]
  show (if PySem.W.kitMeta "ValueError" = true then PySem.W.subIn K (.ref C) (.type "ValueError") else none) = some true
  rw [if_pos (by decide +kernel), h3]
theorem own_mk {K : PySem.W.Frag} {h : Heap} {mg : Str → Option Value} {x f : Str} {C fI W : Addr} (X : K.In h) (G : h.Ns mainGlobals mg) {nm q : Str} {N : Addr} {bs : List Value} {sn : List Str} {sub : List Value} {ab : Bool} {col : Option Bool} {dd : Option Addr} {m0 m1 m2 m3 m5 : Option Value}
    (eC : PySem.W.nsIn K mainGlobals x = some (some (.ref C)))
    (eX : K.lookup C = some (excClassObj nm q C N bs [.ref W, .type "ValueError", .type "Exception", .type "BaseException", .type "object"] true sn sub ab col dd m0 m1 m2 m3 m5 "ValueError.__new__"))
    (e1 : PySem.W.findIn K (.ref C) "__setattr__" = some (some (.builtin "object.__setattr__"))) (e2 : PySem.W.findIn K (.ref C) "__getattribute__" = some (some (.builtin "BaseException.__getattribute__"))) (e3 : PySem.W.findIn K (.ref C) "__getattr__" = some none) (e4 : PySem.W.findIn K (.ref C) f = some none)
    (e5 : PySem.W.findIn K (.ref C) "__init__" = some (some (.ref fI))) (e6 : PySem.W.typeIn K (.ref fI) = some (.type "function")) (e7 : PySem.W.keepIn K (.ref C) = true) (e8 : PySem.W.subIn K (.ref C) (.type "BaseException") = some true) (e9 : PySem.W.typeIn K (.ref C) = some (.type "type")) (e10 : PySem.W.hasDictIn K C = true)
    (e11 : PySem.W.isClsIn K C = true) (e12 : PySem.W.subIn K (.ref C) (.ref C) = some true) (e13 : PySem.W.subIn K (.ref C) (.ref W) = some true) (e14 : PySem.W.typeIn K (.ref W) = some (.type "type")) (e15 : PySem.W.isClsIn K W = true) (e16 : PySem.W.subIn K (.ref C) (.type "ValueError") = some true)
    (e17 : PySem.W.findIn K (.ref C) "__class__" = some (some (.builtin "object.__class__"))) (e18 : PySem.W.specialIn K (.builtin "object.__class__") "__get__" = some (some (.builtin "getset_descriptor.__get__"))) (e19 : PySem.W.takesIn K (.builtin "object.__class__") = some true) (e20 : PySem.W.mroIn K C (.type "object") = some true) : OwnE K mg x f C fI W :=
  { gC := PySem.W.mg_of X G eC, oex := ⟨⟨nm, q, N, bs, _, sn, sub, ab, col, dd, m0, m1, m2, m3, m5, eX, rfl⟩, e1, e8, e9, e7⟩, xf := ⟨e2, e3, e8, e10⟩, is := ⟨e2, e3, e8, e10, e17, e18, e19, e20⟩, cl := e11, noF := e4, iC := e5, tI := e6, exm := PySem.W.exm_ref e8 e10 e9 e12, kW := kit_ref e15 e14 e13, kV := kit_val e16 }
/-- self.f = v, at an exception that is being made -/
def spInit (K : PySem.W.Frag) (f : Str) (C : Addr) : Sp := fun vs H Q _ => ∃ (a : Addr) (v : V), vs = [.ref a, v] ∧ OexC K C ∧ PySem.W.findIn K (.ref C) f = some none ∧ H a = some (exo a C none) ∧
  ∀ dx, H dx = none → dx ≠ a → Q .non (upd (upd H dx (exd dx [(f, v)])) a (exo a C (some dx)))
/-- the i-th statement of a class's body -/
def inCls : Stmt → Nat → Stmt
  | .ClassDef _ _ _ body _ _ _ _ _ _ _, i => body.getD i (.Pass ⟨0, 0, 0, 0⟩)
  | _, _ => .Pass ⟨0, 0, 0, 0⟩
end KG

/-! enumerate of a tuple -/
namespace KG
open PySem PySem.Spec PyProof.Rows L2
set_option maxHeartbeats 1000000 in
theorem enum_new1 {v : Value} {o : Obj} {Hq : Heap → Prop} (B : Begins v o Hq) : Meets (Builtin.«enumerate.__new__» ⟨[.type "enumerate", v], []⟩) (fun _ R s => Hq s.heap ∧ R (.ok (.ret (.ref (s.heap.push o).objs.size))) { s with heap := (s.heap.push o).push { cls := .type "enumerate", data := .fields #[.none, .bool false, .ref s.heap.objs.size, rawInt 0, .none, .none] } }) :=
  .of_wp fun prog w A R s h => by
    obtain ⟨hp, g, d, tk, os⟩ := s
    obtain ⟨h1, h⟩ := h
    have isub := sub_enumerate
    have q1 : ∀ {A' : Around} {E : Value → Shared → Prop} {Q : Value → Shared → Prop}, Q (.ref hp.objs.size) ⟨hp.push o, g, d, tk, os⟩ → wpAny (model prog w) A' (pyIter v) Q E ⟨hp, g, d, tk, os⟩ := fun q => B.iter prog w _ _ ⟨hp, g, d, tk, os⟩ _ h1 q
    wp_walk using q1
    refine wpAny_stack_any fun st => wpAny_pure ?_
    split
    · rename_i c _ _ _ _ _
      cases (c == Value.type "enumerate") <;> (wp_walk using q1; exact ⟨_, rfl, h⟩)
    · wp_walk using q1; exact ⟨_, rfl, h⟩
theorem call_enum1 {prog : Program} {w : World} {A : Around} {E : Value → Shared → Prop} {s : Shared} {v : Value} {o : Obj} {Hq : Heap → Prop} {Q : Value → Shared → Prop} (B : Begins v o Hq) (h1 : Hq s.heap)
    (h : ∀ h', IsEnum h' (s.heap.objs.size + 1) s.heap.objs.size 0 .none → h'.get? s.heap.objs.size = some o → (∀ b u, s.heap.get? b = some u → h'.get? b = some u) → Q (.ref (s.heap.objs.size + 1)) { s with heap := h' }) : wpAny (model prog w) A (call (.type "enumerate") [v]) Q E s := by
  refine callType_new F.called_enumerate (by decide) (F.typeCall_enumerate_1 _) (F.newCall_enumerate_1 _) (fun obj => F.args_object_init_2 obj _) F.entry_enumerate_new (enum_new1 B) ⟨h1, ?_⟩
  have hz : (s.heap.push o).objs.size = s.heap.objs.size + 1 := Heap.size_push ..
  show _ ∧ _
  rw [hz]
  have he : IsEnum ((s.heap.push o).push { cls := .type "enumerate", data := .fields #[.none, .bool false, .ref s.heap.objs.size, rawInt 0, .none, .none] }) (s.heap.objs.size + 1) s.heap.objs.size 0 .none := by
    have e := Heap.get?_push_size (s.heap.push o) (o := { cls := .type "enumerate", data := .fields #[.none, .bool false, .ref s.heap.objs.size, rawInt 0, .none, .none] }) rfl
    rwa [hz] at e
  exact ⟨⟨_, he, rfl⟩, h _ he (Heap.get?_push_of_some _ (Heap.get?_push_size _ B.free)) fun b u x => Heap.get?_push_of_some _ (Heap.get?_push_of_some _ x)⟩
/-- the tuple at a as it stands at each turn, each item in a new pair with its place -/
def IteT (K : PySem.W.Frag) (a : Addr) : It where
  go := fun i H => ∃ xs x, SqT K H a xs ∧ xs[i]? = some x
  yld := fun i H v H' => ∃ T x, v = .ref T ∧ H T = none ∧ H' = upd H T (.tup [.int (i : Nat), x]) ∧ ∀ us, SqT K H a us → us[i]? = some x
  stop := fun i H => ∃ xs, SqT K H a xs ∧ i = xs.length
section
variable {P : Program} {w : World} {K : PySem.W.Frag} {es : List Expr} {n : Nat} {tp : Pos}
theorem turn_enumT {a e t : Addr} (ne : e ≠ t) (na : a ≠ t) (ae : a ≠ e) : Turn P w K (.Tuple es n tp) (IteT K a) [e, t] e (fun k h => (∃ old, IsEnum h e t (k : Int) old) ∧ h.IsTupleIter t a k) := by
  refine { mem := by simp, obj := ?obj, keep := ?keep, item := ?item, done := ?done, self := fun _ _ _ _ _ st h => let ⟨⟨_, q⟩, _⟩ := st; wpAny_pyIter_enum q h }
  case obj =>
    rintro k h ⟨⟨old, s1⟩, ⟨o1, p1, _, p2⟩⟩ c hc
    rcases List.mem_cons.mp hc with rfl | hc
    · exact ⟨_, s1, fun v q => nomatch q⟩
    · rw [List.mem_singleton.mp hc]
      exact ⟨o1, p1, fun v q => by rw [p2] at q; cases q⟩
  case keep =>
    rintro k h h' ⟨⟨old, s1⟩, s2⟩ kp
    exact ⟨⟨old, kp e (by simp) _ s1⟩, s2.at fun _ q => kp t (by simp) _ q⟩
  case item =>
    rintro X rfl rfl rfl hc k pins s σ H E I hf ⟨⟨old, s1⟩, s2⟩ ⟨xs, x, qx, gx⟩
    obtain ⟨its, r1, p1, _⟩ := I.tuple qx
    obtain ⟨w1, f1, rw1⟩ := r1.get gx
    have b1 : k < its.toArray.size := by rw [List.size_toArray]; exact (List.getElem?_eq_some_iff.mp f1).1
    have hh : X.A.in1.handled = none := I.ok.hd hc
    have elt := Heap.lt_size s1
    have hef : e ∉ [t, a] := fun hm => by
      rcases List.mem_cons.mp hm with q | q
      · exact ne q
      · exact ae (List.mem_singleton.mp q).symm
    refine wpAny_pyNext_enum_itemD (Draws.tuple hh t a na its.toArray) s1 ⟨s2, p1⟩ b1 ne hef fun x1 h' tk hP ho hs' hT hsz hk => ?_
    have ex1 : x1 = w1 := by
      have : its[k]? = some x1 := by simpa using hP
      rw [f1] at this; exact (Option.some.inj this).symm
    subst ex1
    refine ⟨_, rfl, wpAny_letOwnedTupleGo_enum (s := { s with heap := h', toks := tk + 1 }) ho fun h2 he2 sb => ?_⟩
    have g2 : ∀ c ob, c ≠ e → h'.get? c = some ob → h2.get? c = some ob := fun c ob nc q => (sb.2 c nc).trans q
    have T2 := g2 _ _ (Nat.ne_of_gt elt) hT
    have nw : ObjOk X.prog X.w (upd H s.heap.objs.size (.tup [.int (k : Nat), x])) h2 s.heap.objs.size (.tup [.int (k : Nat), x]) := ⟨(by show 2 ≤ sizeLine; decide), [.int k tk, x1], .cons ⟨_, rfl⟩ (.cons rw1 .nil), ⟨_, T2, rfl, _, rfl⟩⟩
    have I1 : Inv X pins σ (upd H s.heap.objs.size (.tup [.int (k : Nat), x])) { s with heap := h2, toks := tk + 1 } := I.turnedNew (ch := [e, t]) (fun c ob hb q => by
      have n1 : c ≠ e := fun z => hb (by simp [z])
      have n2 : c ≠ t := fun z => hb (by simp [z])
      exact g2 _ _ n1 (hk c ob n1 n2 q)) hf (Nat.le_refl _) nw
    refine ⟨.ref s.heap.objs.size, _, I1, rfl, ⟨_, x, rfl, I.hok.fresh (Nat.le_refl _), rfl, fun us hu => by rw [I.tuple_inj hu qx]; exact gx⟩, ⟨⟨x1, ?_⟩, hs'.1.at fun _ q => g2 _ _ (Ne.symm ne) q⟩, fun c hcm => ?_⟩
    · have e1 : ((k + 1 : Nat) : Int) = (k : Int) + 1 := by omega
      rw [e1]; exact he2
    · have lt : c < s.heap.objs.size := by
        rcases List.mem_cons.mp hcm with rfl | hcm
        · exact elt
        · rw [List.mem_singleton.mp hcm]
          obtain ⟨_, q, _⟩ := s2; exact Heap.lt_size q
      rw [upd_ne (Nat.ne_of_lt lt)]
      exact (hf c hcm).1
  case done =>
    rintro X rfl rfl rfl hc k pins s σ H E I hf ⟨⟨old, s1⟩, s2⟩ ⟨xs, qx, l1⟩
    obtain ⟨its, r1, p1, _⟩ := I.tuple qx
    have n1 : its.toArray.size = xs.length := by rw [List.size_toArray]; exact r1.length.symm
    have hh : X.A.in1.handled = none := I.ok.hd hc
    have s2' : s.heap.IsTupleIter t a its.toArray.size := by rw [n1, ← l1]; exact s2
    refine wpAny_pyNext_enum_endD (Draws.tuple hh t a na its.toArray) s1 ⟨s2', p1⟩ fun h' kp => ⟨rfl, I.turnedL (ch := [e, t]) (fun c ob hb q => ?_) hf⟩
    exact kp c ob (fun z => hb (by simp [z])) q
end
def iEnumT (K : PySem.W.Frag) (ta : TA) : TI := fun σ H R => ta σ H fun vs H1 => ∃ a xs, vs = [.ref a] ∧ SqT K H1 a xs ∧ R (IteT K a) H1
theorem pi_enumT {X : Cx} {e : Expr} {ta : TA} {p pos tp : Pos} {es : List Expr} {n : Nat} (hg : Gl X "enumerate") (hm : X.mg "enumerate" = none) (ha : PA X [e] ta) (hs : starEach [e] X.env = [(false, eval e X.env)] := by rfl) : PI X (.Tuple es n tp) (.Call (.Name "enumerate" p) [e] [] pos) (iEnumT X.K ta) := by
  constructor
  intro pins s σ H R I h
  refine Call_ (ld_blt I hg hm boot_enumerate (PyProof.Rows.callWith_type1 (thn (ha.run pos pins s σ H _ I h) ?_) hs rfl))
  rintro us s1 ⟨vs, H1, I1, r1, a, xs, rfl, qx, q⟩
  obtain ⟨v1, rfl, rv1⟩ := vals1 r1
  cases rv1
  obtain ⟨its, _, p1, _⟩ := I1.tuple qx
  have alt : a < s1.heap.objs.size := by obtain ⟨_, g1, _⟩ := id p1; exact Heap.lt_size g1
  refine call_enum1 (begins_tuple a its.toArray) p1 fun h' he hit kp => wpAny_pyIter_enum he ?_
  refine ⟨s1.heap.objs.size + 1, [s1.heap.objs.size + 1, s1.heap.objs.size], _, _, H1, rfl, I1.kept (t' := s1.toks) kp, turn_enumT (Nat.succ_ne_self _) (Nat.ne_of_lt alt) (Nat.ne_of_lt (Nat.lt_succ_of_lt alt)), ⟨⟨.none, he⟩, ⟨_, hit, rfl, rfl⟩⟩, fun c hc => ?_, q⟩
  have le : s1.heap.objs.size ≤ c := by
    rcases List.mem_cons.mp hc with rfl | hc
    · exact Nat.le_add_right _ _
    · rw [List.mem_singleton.mp hc]; exact Nat.le_refl _
  exact I1.fpOk le (I1.hok.fresh le)
/-- a loop over enumerate of a tuple -/
theorem for_enumT {K : PySem.W.Frag} {a : Addr} {xs : List V} {g : TG} {tb : TS} {D : Ends} {σ : L2.St} {H : Hp} (Pv : Nat → L2.St → Hp → Prop) (h0 : Pv 0 σ H) (hq : ∀ i σ H, Pv i σ H → SqT K H a xs)
    (hs : ∀ (i : Nat) (x : V) (T : Addr) (σ : L2.St) (H : Hp), xs[i]? = some x → Pv i σ H → H T = none → g (.ref T) σ (upd H T (.tup [.int (i : Nat), x])) fun σ2 H2 => tb { D with nx := Pv (i + 1), ct := Pv (i + 1), bk := D.nx } σ2 H2) (hd : ∀ σ H, Pv xs.length σ H → D.nx σ H) :
    ∃ W : Nat → Nat → L2.St → Hp → Prop, (∃ m, W 0 m σ H) ∧ ∀ i m σ H, W i m σ H → ((IteT K a).stop i H ∧ D.nx σ H) ∨ ((IteT K a).go i H ∧ ∃ N : L2.St → Hp → Prop, (∀ σ' H', N σ' H' → ∃ m', m' < m ∧ W (i + 1) m' σ' H') ∧ ∀ v H', (IteT K a).yld i H v H' → g v σ H' fun σ2 H2 => tb { D with nx := N, ct := N, bk := D.nx } σ2 H2) := by
  refine ⟨fun i m σ H => m = xs.length - i ∧ i ≤ xs.length ∧ Pv i σ H, ⟨_, rfl, Nat.zero_le _, h0⟩, ?_⟩
  rintro i m σ H ⟨rfl, hi, p⟩
  have qx := hq i σ H p
  by_cases hlt : i < xs.length
  · refine .inr ⟨⟨xs, xs[i], qx, List.getElem?_eq_getElem hlt⟩, Pv (i + 1), fun σ' H' p' => ⟨_, by omega, rfl, hlt, p'⟩, ?_⟩
    rintro v H' ⟨T, x', rfl, hT, rfl, f1⟩
    exact hs i x' T σ H (f1 xs qx) p hT
  · obtain rfl : i = xs.length := by omega
    exact .inl ⟨⟨xs, qx, rfl⟩, hd σ H p⟩
/-- a loop over enumerate of a list -/
theorem for_enumL {K : PySem.W.Frag} {a : Addr} {xs : List V} {g : TG} {tb : TS} {D : Ends} {σ : L2.St} {H : Hp} (Pv : Nat → L2.St → Hp → Prop) (h0 : Pv 0 σ H) (hq : ∀ i σ H, Pv i σ H → SqL K H a xs)
    (hs : ∀ (i : Nat) (x : V) (T : Addr) (σ : L2.St) (H : Hp), xs[i]? = some x → Pv i σ H → H T = none → g (.ref T) σ (upd H T (.tup [.int (i : Nat), x])) fun σ2 H2 => tb { D with nx := Pv (i + 1), ct := Pv (i + 1), bk := D.nx } σ2 H2) (hd : ∀ σ H, Pv xs.length σ H → D.nx σ H) :
    ∃ W : Nat → Nat → L2.St → Hp → Prop, (∃ m, W 0 m σ H) ∧ ∀ i m σ H, W i m σ H → ((Ite K a).stop i H ∧ D.nx σ H) ∨ ((Ite K a).go i H ∧ ∃ N : L2.St → Hp → Prop, (∀ σ' H', N σ' H' → ∃ m', m' < m ∧ W (i + 1) m' σ' H') ∧ ∀ v H', (Ite K a).yld i H v H' → g v σ H' fun σ2 H2 => tb { D with nx := N, ct := N, bk := D.nx } σ2 H2) := by
  refine ⟨fun i m σ H => m = xs.length - i ∧ i ≤ xs.length ∧ Pv i σ H, ⟨_, rfl, Nat.zero_le _, h0⟩, ?_⟩
  rintro i m σ H ⟨rfl, hi, p⟩
  have qx := hq i σ H p
  by_cases hlt : i < xs.length
  · refine .inr ⟨⟨xs, xs[i], qx, List.getElem?_eq_getElem hlt⟩, Pv (i + 1), fun σ' H' p' => ⟨_, by omega, rfl, hlt, p'⟩, ?_⟩
    rintro v H' ⟨T, x', rfl, hT, rfl, f1⟩
    exact hs i x' T σ H (f1 xs qx) p hT
  · obtain rfl : i = xs.length := by omega
    exact .inl ⟨⟨xs, qx, Nat.le_refl _⟩, hd σ H p⟩
theorem iteT' {c : Bool} {A B : Prop} (e : c = true) (h : A) : if c = true then A else B := by rw [if_pos e]; exact h
theorem iteF' {c : Bool} {A B : Prop} (e : c = false) (h : B) : if c = true then A else B := by rw [if_neg (by rw [e]; decide)]; exact h
end KG

/-! whole numbers as words: what is written for an int, and which words are read -/
namespace KG
open PySem PySem.Spec PyProof.Rows L2
open NumText (AllDigits digitsVal)
def numS (n : Int) : Str := toString n
def dec : List Nat := ("0123456789" : Str).cps.toList
def digs (x : Str) : Str := if cutS x none (some 1) = "-" then cutS x (some 1) none else x
def isWhole (x : Str) : Bool := decide (1 ≤ (digs x).length) && decide ((digs x).length ≤ 30) && (digs x).cps.toList.all (fun c => decide (c ∈ dec)) && (decide (x = "0") || decide ((digs x).cps[0]? ≠ some 48))
theorem cutS_le (z : Str) (lo hi : Option Int) : (cutS z lo hi).length ≤ z.length := by
  show ((z.cps.toList.drop _).take _).toArray.size ≤ z.cps.size
  rw [List.size_toArray, List.length_take, List.length_drop, Array.length_toList]
  omega
theorem digs_le (x : Str) : (digs x).length ≤ x.length := by
  unfold digs
  split
  · exact cutS_le _ _ _
  · exact Nat.le_refl _
/-! signs -/
def bodyL : List Nat → List Nat
  | 45 :: r => r
  | l => l
theorem tl_cut1 (x : Str) : TL.tl (cutS x none (some 1)) = (TL.tl x).take 1 := by
  show ((x.cps.toList.drop 0).take (min 1 x.length - 0)) = _
  rw [List.drop_zero, Nat.sub_zero]
  show x.cps.toList.take (min 1 x.cps.size) = x.cps.toList.take 1
  rw [← Array.length_toList]
  rcases x.cps.toList with _ | ⟨a, r⟩
  · rfl
  · rw [List.length_cons, Nat.min_eq_left (by omega)]
theorem tl_from1 (x : Str) : TL.tl (cutS x (some 1) none) = (TL.tl x).drop 1 := by
  show ((x.cps.toList.drop (min 1 x.length)).take (x.length - min 1 x.length)) = _
  show ((x.cps.toList.drop (min 1 x.cps.size)).take (x.cps.size - min 1 x.cps.size)) = x.cps.toList.drop 1
  rw [← Array.length_toList]
  rcases x.cps.toList with _ | ⟨a, r⟩
  · rfl
  · rw [List.length_cons, Nat.min_eq_left (by omega)]
    exact List.take_of_length_le (by rw [List.length_drop, List.length_cons]; omega)
theorem tl_minus : TL.tl "-" = [45] := by decide +kernel
theorem tl_zero : TL.tl "0" = [48] := by decide +kernel
theorem tl_digs (x : Str) : TL.tl (digs x) = bodyL (TL.tl x) := by
  unfold digs
  by_cases h : cutS x none (some 1) = "-"
  · rw [if_pos h, tl_from1]
    have e := congrArg TL.tl h
    rw [tl_cut1, tl_minus] at e
    rcases hx : TL.tl x with _ | ⟨a, r⟩
    · rfl
    · rw [hx] at e
      obtain rfl : a = 45 := (List.cons.inj e).1
      rfl
  · rw [if_neg h]
    rcases hx : TL.tl x with _ | ⟨a, r⟩
    · rfl
    · have na : a ≠ 45 := fun z => h (TL.ext_tl (by rw [tl_cut1, hx, z, tl_minus]; rfl))
      unfold bodyL
      split
      · rename_i q
        exact absurd (List.cons.inj q).1 na
      · rfl
theorem mem_dec {c : Nat} : c ∈ dec ↔ 48 ≤ c ∧ c ≤ 57 := by
  rw [show dec = [48, 49, 50, 51, 52, 53, 54, 55, 56, 57] by decide +kernel]
  constructor
  · intro h
    simp at h
    omega
  · intro h
    simp
    omega
def canon (l : List Nat) : Prop := bodyL l ≠ [] ∧ (bodyL l).length ≤ 30 ∧ AllDigits (bodyL l) ∧ (l = [48] ∨ (bodyL l).head? ≠ some 48)
theorem whole_iff (x : Str) : isWhole x = true ↔ canon (TL.tl x) := by
  have l1 : (digs x).length = (bodyL (TL.tl x)).length := by rw [TL.len_tl, tl_digs]
  have l2 : (digs x).cps.toList = bodyL (TL.tl x) := tl_digs x
  have l3 : (digs x).cps[0]? = (bodyL (TL.tl x)).head? := by rw [← Array.getElem?_toList, l2, List.head?_eq_getElem?]
  have l4 : x = "0" ↔ TL.tl x = [48] := ⟨fun h => by rw [h, tl_zero], fun h => TL.ext_tl (by rw [h, tl_zero])⟩
  unfold isWhole canon
  rw [l1, l2, l3]
  simp only [Bool.and_eq_true, Bool.or_eq_true, decide_eq_true_eq, List.all_eq_true, l4]
  constructor
  · rintro ⟨⟨⟨h1, h2⟩, h3⟩, h4⟩
    exact ⟨fun e => by rw [e] at h1; exact absurd h1 (by decide), h2, fun c hc => mem_dec.mp (h3 c hc), h4⟩
  · rintro ⟨h1, h2, h3, h4⟩
    exact ⟨⟨⟨List.length_pos_iff.mpr h1, h2⟩, fun c hc => mem_dec.mpr (h3 c hc)⟩, h4⟩
theorem val_snoc (l : List Nat) (c : Nat) : digitsVal (l ++ [c]) = digitsVal l * 10 + (c - 48) := by
  unfold digitsVal
  rw [List.foldl_append]; rfl
theorem val_mono : ∀ (l : List Nat) (a : Nat), a ≤ l.foldl (fun acc c => acc * 10 + (c - 48)) a
  | [], _ => Nat.le_refl _
  | c :: r, a => Nat.le_trans (by omega) (val_mono r (a * 10 + (c - 48)))
theorem val_pos {l : List Nat} (h : AllDigits l) (h1 : l ≠ []) (h2 : l.head? ≠ some 48) : 1 ≤ digitsVal l := by
  cases l with
  | nil => exact absurd rfl h1
  | cons c r =>
    have hc := h.head
    have : c ≠ 48 := fun z => h2 (by rw [z]; rfl)
    unfold digitsVal
    rw [List.foldl_cons]
    exact Nat.le_trans (by omega) (val_mono r _)
theorem val_lt : ∀ (n : Nat) (l : List Nat), l.length ≤ n → AllDigits l → digitsVal l < 10 ^ n := by
  intro n
  induction n with
  | zero =>
    intro l hl h
    have : l = [] := List.length_eq_zero_iff.mp (by omega)
    rw [this]; decide
  | succ n ih =>
    intro l hl h
    by_cases e : l = []
    · rw [e]; exact Nat.pos_of_ne_zero (by simp [digitsVal])
    · have hd := List.dropLast_concat_getLast e
      have hc := h (l.getLast e) (List.getLast_mem e)
      have h1 := ih l.dropLast (by rw [List.length_dropLast]; omega) (fun c hc => h c (List.dropLast_subset _ hc))
      rw [← hd, val_snoc, Nat.pow_succ]
      omega
theorem num_val : ∀ (n : Nat) (l : List Nat), l.length ≤ n → AllDigits l → l ≠ [] → (l = [48] ∨ l.head? ≠ some 48) → TL.numL (digitsVal l) = l := by
  intro n
  induction n with
  | zero =>
    intro l hl h h1
    exact absurd (List.length_eq_zero_iff.mp (by omega)) h1
  | succ n ih =>
    intro l hl h h1 h2
    have hd := List.dropLast_concat_getLast h1
    have hc := h (l.getLast h1) (List.getLast_mem h1)
    generalize l.getLast h1 = c at hd hc
    generalize hr : l.dropLast = r at hd
    have lr : r.length ≤ n := by rw [← hr, List.length_dropLast]; omega
    have hrd : AllDigits r := fun d q => h d (by rw [← hd]; exact List.mem_append_left _ q)
    rw [← hd, val_snoc]
    cases r with
    | nil =>
      show TL.numL (0 * 10 + (c - 48)) = [c]
      rw [TL.numL_lt (by omega)]
      congr 1; omega
    | cons a q =>
      have h3 : (a :: q).head? ≠ some 48 := by
        rcases h2 with h2 | h2
        · rw [← hd] at h2
          exact absurd (congrArg List.length h2) (by simp)
        · rw [← hd] at h2
          exact h2
      have hp := val_pos hrd (by simp) h3
      rw [TL.numL_step (by omega), show (digitsVal (a :: q) * 10 + (c - 48)) / 10 = digitsVal (a :: q) by omega, show 48 + (digitsVal (a :: q) * 10 + (c - 48)) % 10 = c by omega, ih _ lr hrd (by simp) (.inr h3)]
def signs (n : Int) : List Nat := if n < 0 then 45 :: TL.numL n.natAbs else TL.numL n.natAbs
theorem tl_numS (n : Int) : TL.tl (numS n) = signs n := by
  unfold signs
  by_cases h : n < 0
  · rw [if_pos h]
    obtain ⟨m, rfl⟩ : ∃ m : Nat, n = Int.negSucc m := ⟨(-n - 1).toNat, by omega⟩
    have e : toString (Int.negSucc m) = "-" ++ toString (((m + 1 : Nat) : Int)) := rfl
    show (Str.ofString (toString (Int.negSucc m))).cps.toList = _
    rw [e]
    have e2 : ∀ a b : String, (Str.ofString (a ++ b)).cps.toList = (Str.ofString a).cps.toList ++ (Str.ofString b).cps.toList := fun a b => by
      rw [Str.ofString_eq_toList, Str.ofString_eq_toList, Str.ofString_eq_toList]
      show (a ++ b).toList.map Char.toNat = a.toList.map Char.toNat ++ b.toList.map Char.toNat
      rw [String.toList_append, List.map_append]
    rw [e2]
    show _ ++ TL.tl (Str.ofString (toString (((m + 1 : Nat) : Int)))) = _
    rw [TL.tl_num]; rfl
  · rw [if_neg h]
    obtain ⟨m, rfl⟩ := Int.eq_ofNat_of_zero_le (show 0 ≤ n by omega)
    exact TL.tl_num m
theorem numL_head {n : Nat} (h : n ≠ 0) : (TL.numL n).head? ≠ some 48 := by
  induction n using Nat.strongRecOn with
  | _ n ih =>
    by_cases h1 : n < 10
    · rw [TL.numL_lt h1]
      intro z
      have := Option.some.inj z
      omega
    · rw [TL.numL_step (by omega), List.head?_append]
      have := ih (n / 10) (by omega) (by omega)
      cases hq : (TL.numL (n / 10)).head? with
      | none => exact absurd (List.head?_eq_none_iff.mp hq) (TL.numL_ne _)
      | some z =>
        rw [hq] at this
        exact this
theorem bodyL_num (n : Nat) : bodyL (TL.numL n) = TL.numL n := by
  unfold bodyL
  split
  · rename_i r q
    exact absurd (show 45 ∈ TL.numL n by rw [q]; exact List.mem_cons_self) (TL.numL_free (.inl (by decide)))
  · rfl
theorem body_signs (n : Int) : bodyL (signs n) = TL.numL n.natAbs := by
  unfold signs
  by_cases h : n < 0
  · rw [if_pos h]; rfl
  · rw [if_neg h]; exact bodyL_num _
theorem canon_signs {n : Int} (h : n.natAbs < 10 ^ 30) : canon (signs n) := by
  unfold canon
  rw [body_signs]
  refine ⟨TL.numL_ne _, TL.numL_len (by decide) h, TL.numL_digits _, ?_⟩
  by_cases h0 : n = 0
  · rw [h0]; exact .inl (by decide +kernel)
  · exact .inr (numL_head (by omega))
theorem whole_num {n : Int} (h : n.natAbs < 10 ^ 30) : isWhole (numS n) = true := (whole_iff _).mpr (by rw [tl_numS]; exact canon_signs h)
theorem canon_read {x : Str} (h : isWhole x = true) : ∃ n : Int, intText? x = some n ∧ numS n = x ∧ n.natAbs < 10 ^ 30 ∧ x.length ≤ 31 := by
  obtain ⟨h1, h2, h3, h4⟩ := (whole_iff x).mp h
  have hv := val_lt 30 _ h2 h3
  by_cases hm : ∃ r, TL.tl x = 45 :: r
  · obtain ⟨r, hr⟩ := hm
    have hb : bodyL (TL.tl x) = r := by rw [hr]; rfl
    rw [hb] at h1 h2 h3 h4 hv
    have h4' : r.head? ≠ some 48 := by
      rcases h4 with h4 | h4
      · rw [hr] at h4
        exact absurd (List.cons.inj h4).1 (by decide)
      · exact h4
    have lx : x.length = r.length + 1 := by rw [TL.len_tl, hr, List.length_cons]
    have hp := val_pos h3 h1 h4'
    refine ⟨_, intText_neg hr h3 h1 (by omega), TL.ext_tl ?_, by omega, by omega⟩
    rw [tl_numS, signs, if_pos (by omega), hr, show (-((digitsVal r : Nat) : Int)).natAbs = digitsVal r by omega, num_val 30 r h2 h3 h1 (.inr h4')]
  · have hb : bodyL (TL.tl x) = TL.tl x := by
      unfold bodyL
      split
      · rename_i r q
        exact absurd ⟨r, q⟩ hm
      · rfl
    rw [hb] at h1 h2 h3 h4 hv
    have lx : x.length = (TL.tl x).length := TL.len_tl x
    refine ⟨_, intText_digits h3 h1 (by omega), TL.ext_tl ?_, by show ((digitsVal (TL.tl x) : Nat) : Int).natAbs < _; omega, by omega⟩
    rw [tl_numS, signs, if_neg (by show ¬ ((digitsVal (TL.tl x) : Nat) : Int) < 0; omega)]
    show TL.numL (digitsVal (TL.tl x)) = _
    exact num_val 30 _ h2 h3 h1 h4
theorem numS_inj {m n : Int} (h : numS m = numS n) : m = n := by
  have e := congrArg TL.tl h
  rw [tl_numS, tl_numS] at e
  have e2 := congrArg bodyL e
  rw [body_signs, body_signs] at e2
  have e3 := TL.numL_inj e2
  unfold signs at e
  by_cases h1 : m < 0 <;> by_cases h2 : n < 0
  · omega
  · rw [if_pos h1, if_neg h2] at e
    exact absurd (show 45 ∈ TL.numL n.natAbs by rw [← e]; exact List.mem_cons_self) (TL.numL_free (.inl (by decide)))
  · rw [if_neg h1, if_pos h2] at e
    exact absurd (show 45 ∈ TL.numL m.natAbs by rw [e]; exact List.mem_cons_self) (TL.numL_free (.inl (by decide)))
  · omega
theorem read_num {n : Int} (h : n.natAbs < 10 ^ 30) : intText? (numS n) = some n := by
  obtain ⟨m, h1, h2, _⟩ := canon_read (whole_num h)
  rw [h1, numS_inj h2]
theorem removeprefix_digs (x : Str) : Txt.removeprefix x "-" = digs x := by
  apply TL.ext_tl
  rw [tl_digs]
  unfold Txt.removeprefix
  have lm : ("-" : Str).length = 1 := by decide +kernel
  have es : Builtin.Str.subAt x "-" 0 = decide ((TL.tl x).take 1 = [45]) := by
    rw [StrLaws.subAt_eq, List.drop_zero, lm]
    show ((TL.tl x).take 1 == TL.tl "-") = _
    rw [tl_minus, Bool.eq_iff_iff]; simp
  rw [es, lm]
  rcases hx : TL.tl x with _ | ⟨a, r⟩
  · show TL.tl x = []
    exact hx
  · have lx : x.length = r.length + 1 := by rw [TL.len_tl, hx, List.length_cons]
    by_cases h : a = 45
    · subst h
      rw [if_pos (by simp)]
      show TL.tl (if x.length - 1 == x.length then x else Builtin.Str.strSub x 1 x.length) = r
      rw [if_neg (by rw [beq_iff_eq]; omega)]
      show (Builtin.Str.strSub x 1 x.length).cps.toList = r
      rw [StrLaws.strSub_toList]
      show ((TL.tl x).drop 1).take (x.length - 1) = r
      rw [hx, lx]
      exact List.take_of_length_le (by simp)
    · rw [if_neg (by simp [h])]
      show TL.tl x = bodyL (a :: r)
      rw [hx]
      unfold bodyL
      split
      · rename_i q
        exact absurd (List.cons.inj q).1 h
      · rfl
end KG

/-! what split and join give: never nothing, no new signs, no longer word -/
namespace KG
open PySem PySem.Spec PyProof.Rows L2
theorem spl_ne (S : List Nat) : ∀ (r : List Nat) (k : Nat) (acc : List Nat), TL.spl S k acc r ≠ []
  | [], k, acc => by rw [TL.spl_nil]; exact List.cons_ne_nil _ _
  | c :: r, 0, acc => by
    show (if TL.pre S (c :: r) = true then acc :: TL.spl S (S.length - 1) [] r else TL.spl S 0 (acc ++ [c]) r) ≠ []
    by_cases h : TL.pre S (c :: r) = true
    · rw [if_pos h]; exact List.cons_ne_nil _ _
    · rw [if_neg h]; exact spl_ne S r 0 _
  | _ :: r, k + 1, acc => spl_ne S r k acc
theorem spl_len (S : List Nat) : ∀ (r : List Nat) (k : Nat) (acc : List Nat), ∀ p ∈ TL.spl S k acc r, p.length ≤ acc.length + r.length
  | [], k, acc => by
    intro p hp
    rw [TL.spl_nil] at hp
    rw [List.mem_singleton.mp hp]; exact Nat.le_add_right _ _
  | c :: r, 0, acc => by
    intro p hp
    have hp : p ∈ (if TL.pre S (c :: r) = true then acc :: TL.spl S (S.length - 1) [] r else TL.spl S 0 (acc ++ [c]) r) := hp
    by_cases h : TL.pre S (c :: r) = true
    · rw [if_pos h] at hp
      rcases List.mem_cons.mp hp with h | h
      · rw [h]; exact Nat.le_add_right _ _
      · have := spl_len S r _ _ p h
        rw [List.length_nil] at this
        rw [List.length_cons]; omega
    · rw [if_neg h] at hp
      have := spl_len S r _ _ p hp
      rw [List.length_append, List.length_singleton] at this
      rw [List.length_cons]; omega
  | _ :: r, k + 1, acc => by
    intro p hp
    have := spl_len S r k acc p hp
    rw [List.length_cons]; omega
theorem spl_mem (S : List Nat) : ∀ (r : List Nat) (k : Nat) (acc : List Nat), ∀ p ∈ TL.spl S k acc r, ∀ c ∈ p, c ∈ acc ∨ c ∈ r
  | [], k, acc => by
    intro p hp c hc
    rw [TL.spl_nil] at hp
    rw [List.mem_singleton.mp hp] at hc; exact .inl hc
  | d :: r, 0, acc => by
    intro p hp c hc
    have hp : p ∈ (if TL.pre S (d :: r) = true then acc :: TL.spl S (S.length - 1) [] r else TL.spl S 0 (acc ++ [d]) r) := hp
    by_cases h : TL.pre S (d :: r) = true
    · rw [if_pos h] at hp
      rcases List.mem_cons.mp hp with h | h
      · rw [h] at hc; exact .inl hc
      · rcases spl_mem S r _ _ p h c hc with h | h
        · cases h
        · exact .inr (List.mem_cons_of_mem _ h)
    · rw [if_neg h] at hp
      rcases spl_mem S r _ _ p hp c hc with h | h
      · rcases List.mem_append.mp h with h | h
        · exact .inl h
        · rw [List.mem_singleton.mp h]; exact .inr List.mem_cons_self
      · exact .inr (List.mem_cons_of_mem _ h)
  | _ :: r, k + 1, acc => by
    intro p hp c hc
    rcases spl_mem S r k acc p hp c hc with h | h
    · exact .inl h
    · exact .inr (List.mem_cons_of_mem _ h)
theorem spl_count (S : List Nat) : ∀ (r : List Nat) (k : Nat) (acc : List Nat), (TL.spl S k acc r).length ≤ r.length + 1
  | [], k, acc => by rw [TL.spl_nil]; exact Nat.le_refl _
  | c :: r, 0, acc => by
    show (if TL.pre S (c :: r) = true then acc :: TL.spl S (S.length - 1) [] r else TL.spl S 0 (acc ++ [c]) r).length ≤ _
    by_cases h : TL.pre S (c :: r) = true
    · rw [if_pos h, List.length_cons, List.length_cons]
      have := spl_count S r (S.length - 1) []
      omega
    · rw [if_neg h, List.length_cons]
      have := spl_count S r 0 (acc ++ [c])
      omega
  | _ :: r, k + 1, acc => by
    have := spl_count S r k acc
    rw [List.length_cons]; exact Nat.le_succ_of_le this
/-- a separator of one plain sign -/
structure Sep (y : Str) (s : Nat) : Prop where
  tl : TL.tl y = [s]
  lo : y.cps.all (· < 256) = true
theorem sep_blank : Sep " " 32 := ⟨by decide +kernel, by decide +kernel⟩
theorem sep_line : Sep "\n" 10 := ⟨by decide +kernel, by decide +kernel⟩
section
variable {y : Str} {s : Nat}
theorem Sep.split (h : Sep y s) (x : Str) : (Txt.split x y).map TL.tl = TL.spl [s] 0 [] (TL.tl x) := by
  rw [← h.tl]
  exact TL.split_spl x y (by rw [h.tl]; exact List.cons_ne_nil _ _) (TL.kind_ok h.lo)
theorem Sep.ne (h : Sep y s) (x : Str) : Txt.split x y ≠ [] := fun e => spl_ne [s] (TL.tl x) 0 [] (by rw [← h.split, e]; rfl)
theorem Sep.len (h : Sep y s) (x : Str) : ∀ p ∈ Txt.split x y, p.length ≤ x.length := fun p hp => by
  have q := spl_len [s] (TL.tl x) 0 [] (TL.tl p) (by rw [← h.split]; exact List.mem_map_of_mem hp)
  rw [TL.len_tl, TL.len_tl]
  simpa using q
theorem Sep.mem (h : Sep y s) (x : Str) : ∀ p ∈ Txt.split x y, ∀ c ∈ TL.tl p, c ∈ TL.tl x := fun p hp c hc => by
  rcases spl_mem [s] (TL.tl x) 0 [] (TL.tl p) (by rw [← h.split]; exact List.mem_map_of_mem hp) c hc with q | q
  · cases q
  · exact q
theorem Sep.count (h : Sep y s) (x : Str) : (Txt.split x y).length ≤ x.length + 1 := by
  have q := spl_count [s] (TL.tl x) 0 []
  rw [← h.split, List.length_map, ← TL.len_tl] at q
  exact q
theorem Sep.back (h : Sep y s) {parts : List Str} (hne : parts ≠ []) (hp : ∀ p ∈ parts, s ∉ TL.tl p) : Txt.split (Txt.join y parts) y = parts := TL.split_join h.tl h.lo hne hp
theorem join_of_split (x y : Str) : Txt.join y (Txt.split x y) = x := by rw [TL.join_eq]; exact StrLaws.join_split x y
theorem joinL_mem {S : List Nat} : ∀ {ps : List (List Nat)}, ∀ c ∈ TL.joinL S ps, c ∈ S ∨ ∃ p ∈ ps, c ∈ p
  | [], c, h => by cases h
  | [p], c, h => .inr ⟨p, List.mem_singleton.mpr rfl, h⟩
  | p :: q :: r, c, h => by
    have h : c ∈ p ++ (S ++ TL.joinL S (q :: r)) := h
    rcases List.mem_append.mp h with h | h
    · exact .inr ⟨p, List.mem_cons_self, h⟩
    rcases List.mem_append.mp h with h | h
    · exact .inl h
    rcases joinL_mem c h with h | ⟨z, hz, h⟩
    · exact .inl h
    · exact .inr ⟨z, List.mem_cons_of_mem _ hz, h⟩
theorem Sep.join_mem (h : Sep y s) (ps : List Str) : ∀ c ∈ TL.tl (Txt.join y ps), c = s ∨ ∃ p ∈ ps, c ∈ TL.tl p := fun c hc => by
  rw [TL.join_eq, TL.tl_join, h.tl] at hc
  rcases joinL_mem c hc with q | ⟨z, hz, q⟩
  · exact .inl (List.mem_singleton.mp q)
  · obtain ⟨p, hp, rfl⟩ := List.mem_map.mp hz
    exact .inr ⟨p, hp, q⟩
theorem joinL_len {s : Nat} : ∀ ps : List (List Nat), (TL.joinL [s] ps).length ≤ (ps.map (·.length)).sum + ps.length
  | [] => Nat.le_refl _
  | [p] => by simp [TL.joinL]
  | p :: q :: r => by
    have h := joinL_len (s := s) (q :: r)
    show (p ++ ([s] ++ TL.joinL [s] (q :: r))).length ≤ _
    rw [List.length_append, List.length_append, List.length_singleton, List.map_cons, List.sum_cons, List.length_cons]
    omega
theorem Sep.join_len (h : Sep y s) (ps : List Str) : (Txt.join y ps).length ≤ (ps.map (·.length)).sum + ps.length := by
  have q := joinL_len (s := s) (ps.map TL.tl)
  rw [List.map_map, List.length_map] at q
  rw [TL.join_eq, TL.len_tl, TL.tl_join, h.tl, show (ps.map (·.length)) = ps.map ((fun x => x.length) ∘ TL.tl) from List.map_congr_left fun p _ => TL.len_tl p]
  exact q
end
theorem sum_le {ps : List Str} {B : Nat} (h : ∀ p ∈ ps, p.length ≤ B) : (ps.map (·.length)).sum ≤ B * ps.length := by
  induction ps with
  | nil => exact Nat.zero_le _
  | cons p r ih =>
    rw [List.map_cons, List.sum_cons, List.length_cons, Nat.mul_succ]
    have h1 := h p List.mem_cons_self
    have h2 := ih fun q hq => h q (List.mem_cons_of_mem _ hq)
    omega
end KG

/-! d.get(text), d.get(text, x): d a dict of the module with texts for keys and ints for values -/
namespace KG
open PySem PySem.Spec PyProof.Rows L2
inductive EsAt (P : Params) : List DictEntry → List (Str × Int) → Prop
  | nil : EsAt P [] []
  | cons {k : Str} {v : Int} {t u : Tok} {l : List DictEntry} {r : List (Str × Int)} : EsAt P l r → EsAt P (⟨PyData.keyHash P k, .str k t, .int v u⟩ :: l) ((k, v) :: r)
def KDi (K : PySem.W.Frag) (w : World) (d : Addr) (kvs : List (Str × Int)) : Prop := ∃ es n, K.lookup d = some ⟨.type "dict", none, .dict es n, #[]⟩ ∧ EsAt w.params es.toList kvs ∧ (d == sysModules) = false
theorem EsAt.lit {P : Params} {l : List DictEntry} {r : List (Str × Int)} (h : EsAt P l r) : PySem.W.KeysLit P l := by
  induction h with
  | nil => trivial
  | cons _ ih => exact ⟨⟨_, _, rfl, rfl⟩, ih⟩
theorem EsAt.find {P : Params} {l : List DictEntry} {r : List (Str × Int)} (h : EsAt P l r) (z : Str) : ((r.lookup z = none ∧ (l.find? fun e => Value.isStrOf z e.key).map (·.val) = none) ∨ ∃ v u, r.lookup z = some v ∧ (l.find? fun e => Value.isStrOf z e.key).map (·.val) = some (.int v u)) := by
  induction h with
  | nil => exact .inl ⟨rfl, rfl⟩
  | @cons k v t u l r _ ih =>
    by_cases e : k = z
    · refine .inr ⟨v, u, ?_, ?_⟩
      · rw [List.lookup_cons, show (z == k) = true by rw [e]; exact beq_self_eq_true z]
      · rw [List.find?_cons, show Value.isStrOf z (Value.str k t) = true from by show (k == z) = true; rw [e]; exact beq_self_eq_true z]; rfl
    · have e1 : (z == k) = false := by rw [beq_eq_false_iff_ne]; exact fun q => e q.symm
      have e2 : (k == z) = false := by rw [beq_eq_false_iff_ne]; exact e
      rw [List.lookup_cons, e1, List.find?_cons, show Value.isStrOf z (Value.str k t) = false from e2]
      exact ih
def kdOr (kvs : List (Str × Int)) (z : Str) (d : V) : V := match kvs.lookup z with
  | some v => .int v
  | none => d
theorem KDi.found {K : PySem.W.Frag} {w : World} {d : Addr} {kvs : List (Str × Int)} (h : KDi K w d kvs) {X : Cx} {pins : List (Addr × Obj)} {σ : L2.St} {H : Hp} {s : Shared} (I : Inv X pins σ H s) (eK : X.K = K) (eW : X.w = w) (z : Str) :
    (d == sysModules) = false ∧ ∃ f, s.heap.MapOf (strKind X.prog X.w) d f ∧ (∀ (b : Value), Value.ref d = b → s.TypeIs b "dict" ∧ ∀ a, b = .ref a → ∃ ob, s.heap.get? a = some ob ∧ ob.dict = none) ∧ ∀ (df : V) (dv : Value), RelV df dv → RelV (kdOr kvs z df) ((f z).getD dv) := by
  subst eK eW
  obtain ⟨es, n, hl, he, low⟩ := h
  have hm := PySem.W.mapOf_K (prog := X.prog) (w := X.w) I.kIn hl he.lit
  refine ⟨low, _, hm, ?_, ?_⟩
  · rintro b rfl
    refine ⟨hm.typeIs, ?_⟩
    rintro a e
    cases e
    exact ⟨_, I.kIn _ _ hl, rfl⟩
  · intro df dv hd
    show RelV (kdOr kvs z df) (((es.find? fun e => Value.isStrOf z e.key).map (·.val)).getD dv)
    rw [← Array.find?_toList]
    unfold kdOr
    rcases he.find z with ⟨e1, e2⟩ | ⟨v, u, e1, e2⟩
    · rw [e1, e2]; exact hd
    · rw [e1, e2]; exact ⟨u, rfl⟩
def tKGet1 (K : PySem.W.Frag) (w : World) (td ty : TE) : TE := fun σ H Q => td σ H fun x H1 => ∃ a kvs, x = .ref a ∧ KDi K w a kvs ∧ ty σ H1 fun y H2 => ∃ z, y = .str z ∧ Q (kdOr kvs z .non) H2
def tKGet2 (K : PySem.W.Frag) (w : World) (td ty tx : TE) : TE := fun σ H Q => td σ H fun x H1 => ∃ a kvs, x = .ref a ∧ KDi K w a kvs ∧ ty σ H1 fun y H2 => tx σ H2 fun d H3 => ∃ z, y = .str z ∧ Q (kdOr kvs z d) H3
section
variable {X : Cx} {o e f : Expr} {apos cpos : Pos} {td ty tx : TE}
theorem pe_kget1 (ho : PE X o td) (he : PE X e ty) (m : M1 X o "get" apos e cpos) : PE X (.Call (.Attribute o "get" apos) [e] [] cpos) (tKGet1 X.K X.w td ty) := by
  constructor
  intro pins s σ H Q I h
  refine wpAny_Call_method m.base m.few m.line PySem.F.plainAttrs_dict PySem.F.slot_dict_get PySem.F.type_dict_get (thn (ho.run pins s σ H _ I h) ?_)
  rintro u s1 ⟨x, H1, I1, rx, a, kvs, rfl, d, q1⟩
  cases (show u = Value.ref a from rx)
  obtain ⟨_, _, _, t1, _⟩ := d.found I1 rfl rfl ""
  obtain ⟨t1, t2⟩ := t1 _ rfl
  refine ⟨t1, t2, ?_⟩
  rw [m.trees]
  refine Calls.callWith_builtin rfl (Calls.evalArgs_plain (Calls.spliced_cons (thn (he.run pins s1 σ H1 _ I1 q1) ?_)))
  rintro iv s2 ⟨y, H2, I2, ry, z, rfl, q2⟩
  refine Calls.spliced_nil ?_
  obtain ⟨t, rfl⟩ := ry
  obtain ⟨low, f, hm, _, hv⟩ := d.found I2 rfl rfl z
  exact call_meetsIn PySem.F.slot_dict_get hm.typeIs PySem.F.entry_dict_get (PySem.F.args_dict_get_2 _ _) (meets_dict_get (strKind X.prog X.w) a (strKind_is X.prog X.w z t) low) ⟨f, hm, _, H2, I2.tok _, hv .non .none rfl, q2⟩
theorem pe_kget2 (ho : PE X o td) (he : PE X e ty) (hf : PE X f tx) (m : M2 X o "get" apos e f cpos) : PE X (.Call (.Attribute o "get" apos) [e, f] [] cpos) (tKGet2 X.K X.w td ty tx) := by
  constructor
  intro pins s σ H Q I h
  refine wpAny_Call_method m.base m.few m.line PySem.F.plainAttrs_dict PySem.F.slot_dict_get PySem.F.type_dict_get (thn (ho.run pins s σ H _ I h) ?_)
  rintro u s1 ⟨x, H1, I1, rx, a, kvs, rfl, d, q1⟩
  cases (show u = Value.ref a from rx)
  obtain ⟨_, _, _, t1, _⟩ := d.found I1 rfl rfl ""
  obtain ⟨t1, t2⟩ := t1 _ rfl
  refine ⟨t1, t2, ?_⟩
  rw [m.trees]
  refine Calls.callWith_builtin rfl (Calls.evalArgs_plain (Calls.spliced_cons (thn (he.run pins s1 σ H1 _ I1 q1) ?_)))
  rintro iv s2 ⟨y, H2, I2, ry, q2⟩
  refine Calls.spliced_cons (thn (hf.run pins s2 σ H2 _ I2 q2) ?_)
  rintro fv s3 ⟨d3, H3, I3, r3, z, rfl, q3⟩
  refine Calls.spliced_nil ?_
  obtain ⟨t, rfl⟩ := ry
  obtain ⟨low, f, hm, _, hv⟩ := d.found I3 rfl rfl z
  exact call_meetsIn PySem.F.slot_dict_get hm.typeIs PySem.F.entry_dict_get (PySem.F.args_dict_get_3 _ _ _) (meets_dict_get_default (strKind X.prog X.w) a (strKind_is X.prog X.w z t) low fv) ⟨f, hm, _, H3, I3.tok _, hv d3 fv r3, q3⟩
end
end KG

/-! small things that the laws' own bodies share -/
namespace KG
open PySem PySem.Spec PyProof.Rows L2
theorem same_but {p : Addr} {H H1 H2 : Hp} (s : Same H H1) (b : But p H1 H2) (n : H p = none) : Same H H2 := fun c o e => b c o (fun z => by rw [z, n] at e; cases e) (s c o e)
theorem seqO {K : PySem.W.Frag} {p a : Addr} {H H1 : Hp} {xs : List V} (h : SqL K H a xs) (n : H p = none) (s : Same H H1) : SqO K H1 p a xs := fun o => Same.seq (same_put s n) h
theorem cut_one (xs : List V) : (cutV xs none (some 1)).length ≤ 1 := by
  unfold cutV
  rw [HT.sIx_none, List.length_take, show HT.sIx xs.length xs.length (some 1) = min 1 xs.length from HT.sIx_nat _ _ 1]
  omega
theorem ne_lists {K : PySem.W.Frag} {H : Hp} {a b : Addr} {r q : List Int} {Q : VK} (h1 : SqL K H a (r.map V.int)) (h2 : SqL K H b (q.map V.int)) (k : Q (.bl (!decide (r = q))) H) : rNeD K (.ref a) (.ref b) H Q :=
  ⟨_, _, .lst h1 (dp_all r), .lst h2 (dp_all q), shaped_l r, shaped_l q, by rw [eqv_l]; exact k⟩
theorem small_new {ss : List Stp} {m : Int} {s : Stp} (h : SNew ss m s) (hm : m < 2 ^ 1000) (hl : ss.length ≤ 100000) : ∀ n ∈ s.ns, n.natAbs.log2 < 1920 := by
  have lg : ∀ n : Int, n.natAbs < 2 ^ 1000 → n.natAbs.log2 < 1920 := fun n h => log_small (n := 1000) h (by decide) (by decide)
  have big : (100000 : Nat) < 2 ^ 1000 := by decide +kernel
  have hm' : ∀ n : Int, -m ≤ n → n ≤ m → n.natAbs < 2 ^ 1000 := fun n a b => by
    have e : ((2 ^ 1000 : Nat) : Int) = (2 : Int) ^ 1000 := by decide +kernel
    have h3 : (n.natAbs : Int) ≤ m := by omega
    have h4 : (n.natAbs : Int) < ((2 ^ 1000 : Nat) : Int) := by rw [e]; exact Int.lt_of_le_of_lt h3 hm
    exact Int.ofNat_lt.mp h4
  have nm : ∀ b i, Nm1 ss b i → i.natAbs < 2 ^ 1000 := fun b i ⟨h0, s, hs, _⟩ => by
    have := (List.getElem?_eq_some_iff.mp hs).1
    exact Nat.lt_of_lt_of_le (show i.natAbs < 100001 by omega) big
  rcases h with ⟨x, y, rfl, a, b, c, d⟩ | ⟨i, j, rfl, a, b⟩ | ⟨i, j, k, rfl, a, b, c⟩ | ⟨i, j, w, rfl, a, b, c, d⟩
  · intro n hn
    rcases List.mem_cons.mp hn with rfl | hn
    · exact lg _ (hm' _ a b)
    · rw [List.mem_singleton.mp hn]; exact lg _ (hm' _ c d)
  · intro n hn
    rcases List.mem_cons.mp hn with rfl | hn
    · exact lg _ (nm _ _ a)
    · rw [List.mem_singleton.mp hn]; exact lg _ (nm _ _ b)
  · intro n hn
    rcases List.mem_cons.mp hn with rfl | hn
    · exact lg _ (nm _ _ a)
    rcases List.mem_cons.mp hn with rfl | hn
    · exact lg _ (nm _ _ b)
    · rw [List.mem_singleton.mp hn]; exact lg _ (nm _ _ c)
  · intro n hn
    rcases List.mem_cons.mp hn with rfl | hn
    · exact lg _ (nm _ _ a)
    rcases List.mem_cons.mp hn with rfl | hn
    · exact lg _ (nm _ _ b)
    · rw [List.mem_singleton.mp hn]; exact lg _ (Nat.lt_of_lt_of_le (show w.natAbs < 100001 by omega) big)
/-- a def that may raise, asked where it doesn't -/
theorem quiet {P : Program} {w : World} {K : PySem.W.Frag} {mg : Str → Option Value} {base : Heap} {k : Nat} {f : Addr} {fd : FuncData} {ps : List Str} {sp : Sp} (F : FnOk P w K mg base (L2.CX P w) k f fd ps sp) : FnOk P w K mg base CX0 k f fd ps (fun vs H Q _ => sp vs H Q fun _ _ _ => False) :=
  ⟨fun vs H Q E q => F.len _ _ _ _ q, fun A outer s H args us vs Q E hr he hb hv hs => codeAny_mono (F.run A outer s H args us vs Q _ hr he hb hv hs) fun r s2 h => by
    match r, h with
    | .ok (.ret u), h => exact h
    | .ok .next, h => exact False.elim h
    | .ok .brk, h => exact False.elim h
    | .ok .cont, h => exact False.elim h
    | .error e, h =>
      obtain ⟨_, _, _, _, _, _, _, _, _, _, _, _, h⟩ := h
      exact False.elim h⟩
end KG

namespace KG
open PySem PySem.Spec PyProof.Rows L2
/-! a comprehension over a text -/
section
variable {D : Addr} {g : TG} {te : TE} {vs : List Nat} {σ : L2.St} {H1 : Hp} {Qd : Hp → Prop} {x : Str}
theorem comp_str (G : Nat → V) (hD : H1 D = none) (hl : x.cps.size ≤ 1000)
    (hs : ∀ (i : Nat) (c : Nat) (H : Hp) (Nx : V → Hp → Prop), x.cps[i]? = some c → Same H1 H → Nx (G c) H → g (.str ⟨#[c]⟩) (wipe σ vs) H fun σ2 H2 => wipe σ2 vs = wipe σ vs ∧ te σ2 H2 Nx)
    (hd : ∀ H, Same H1 H → H D = some (.lst (x.cps.toList.map G)) → Qd H) :
    ∃ W : Nat → Nat → Hp → Prop, (∃ m, W 0 m (upd H1 D (.lst []))) ∧ ∀ i m H, W i m H →
      ((Its x).stop i H ∧ Qd H) ∨ ((Its x).go i H ∧ ∃ Nx : Hp → Prop, (∀ H', Nx H' → ∃ m', m' < m ∧ W (i + 1) m' H') ∧ ∀ v H', (Its x).yld i H v H' → g v (wipe σ vs) H' fun σ2 H2 => wipe σ2 vs = wipe σ vs ∧ tYes σ2 H2 fun b H3 =>
        if b = true then te σ2 H3 fun y H4 => ∃ acc, H4 D = some (.lst acc) ∧ acc.length < sizeLine ∧ Nx (upd H4 D (.lst (acc ++ [y]))) else Nx H3) := by
  refine ⟨fun i m H => m = x.cps.size - i ∧ i ≤ x.cps.size ∧ Same H1 H ∧ H D = some (.lst ((x.cps.toList.take i).map G)), ⟨_, rfl, Nat.zero_le _, same_new hD _, upd_same⟩, ?_⟩
  rintro i m H ⟨rfl, hi, sm, hq⟩
  by_cases hlt : i < x.cps.size
  · refine .inr ⟨hlt, fun H' => Same H1 H' ∧ H' D = some (.lst ((x.cps.toList.take (i + 1)).map G)), fun H' p => ⟨x.cps.size - (i + 1), by omega, rfl, hlt, p⟩, fun v H' y => ?_⟩
    obtain ⟨rfl, c, hc, rfl⟩ := y
    have hcl : x.cps.toList[i]? = some c := by rw [Array.getElem?_toList]; exact hc
    have := hs i c H' (fun y H4 => ∃ acc, H4 D = some (.lst acc) ∧ acc.length < sizeLine ∧ (Same H1 (upd H4 D (.lst (acc ++ [y]))) ∧ (upd H4 D (.lst (acc ++ [y]))) D = some (.lst ((x.cps.toList.take (i + 1)).map G)))) hc sm
      ⟨_, hq, small1000 (by rw [List.length_map, List.length_take]; omega), fun b o e => by rw [upd_ne (ne_of_none e hD)]; exact sm b o e, by rw [upd_same, List.take_add_one, hcl, List.map_append]; rfl⟩
    exact this
  · refine .inl ⟨by show x.cps.size ≤ i; omega, hd H sm ?_⟩
    rw [hq, List.take_of_length_le (by rw [Array.length_toList]; omega)]
end
end KG

/-! text * int -/
namespace KG
open PySem PySem.Spec PyProof.Rows L2
def repS (x : Str) (n : Nat) : Str := ⟨(List.replicate n x.cps).foldl (· ++ ·) #[]⟩
theorem rep_fold (a : Array Nat) : ∀ (n : Nat) (b : Array Nat), ((List.replicate n a).foldl (· ++ ·) b).toList = b.toList ++ (List.replicate n a.toList).flatten
  | 0, b => by simp
  | n + 1, b => by
    rw [List.replicate_succ, List.foldl_cons, rep_fold a n (b ++ a), Array.toList_append, List.append_assoc]; rfl
theorem tl_rep (x : Str) (n : Nat) : TL.tl (repS x n) = (List.replicate n (TL.tl x)).flatten := by
  show ((List.replicate n x.cps).foldl (· ++ ·) #[]).toList = _
  rw [rep_fold]; rfl
theorem len_rep (x : Str) (n : Nat) : (repS x n).length = n * x.length := by
  rw [TL.len_tl, tl_rep, TL.len_tl x]
  induction n with
  | zero => rw [Nat.zero_mul]; rfl
  | succ n ih => rw [List.replicate_succ, List.flatten_cons, List.length_append, ih, Nat.succ_mul, Nat.add_comm]
def rRepS : R2 := fun x y H Q => ∃ z n, x = .str z ∧ y = .int n ∧ 2 ≤ n ∧ n ≤ 1000 ∧ 1 ≤ z.length ∧ z.length ≤ 1000 ∧ Q (.str (repS z n.toNat)) H
theorem op_repS {X : Cx} : OpR X (binaryOp .Mult) rRepS := by
  intro pins s σ H x y v u Q I rx ry h
  obtain ⟨z, n, rfl, rfl, h2, h3, h4, h5, q⟩ := h
  obtain ⟨t, rfl⟩ := rx
  obtain ⟨t', rfl⟩ := ry
  have hn : ¬ n < 1 := by omega
  have hc : ¬ ((n == 1 || z.length == 0) = true) := by
    rw [Bool.or_eq_true, beq_iff_eq, beq_iff_eq]
    omega
  have hb : z.length * n.toNat ≤ 1000 * 1000 := Nat.mul_le_mul h5 (by omega)
  refine PySem.P.mul_str (by rw [decide_eq_false (show ¬ n < -(2 ^ 63) by omega), decide_eq_false (show ¬ n ≥ 2 ^ 63 by omega)]; rfl) (fun _ _ => ?_) (fun _ _ => ?_) ?_
  · have hm : (z.length : Int) * n ≤ 1000 * 1000 := Int.mul_le_mul (by omega) (by omega) (by omega) (by decide)
    have := Int.le_ediv_of_mul_le (show 0 < n by omega) (show (z.length : Int) * n ≤ 2 ^ 63 - 1 by omega)
    omega
  · unfold Builtin.Str.tooLong
    exact decide_eq_false (by rw [sizeLine_eq]; omega)
  · rw [if_neg hn, if_neg hc]
    refine ⟨?_, .str (repS z n.toNat), H, I.tok _, ⟨_, rfl⟩, q⟩
    show (repS z n.toNat).length ≤ sizeLine
    rw [len_rep, sizeLine_eq, Nat.mul_comm]
    omega
end KG

/-! pieces of lists of texts -/
namespace KG
open PySem PySem.Spec PyProof.Rows L2
def cutG {α : Type} (xs : List α) (lo hi : Option Int) : List α := (xs.drop (HT.sIx xs.length 0 lo)).take (HT.sIx xs.length xs.length hi - HT.sIx xs.length 0 lo)
theorem cutG_mem {α : Type} {ls : List α} {lo hi : Option Int} {x : α} (h : x ∈ cutG ls lo hi) : x ∈ ls := List.mem_of_mem_drop (List.mem_of_mem_take h)
theorem cut_map (ls : List Str) (lo hi : Option Int) : cutV (ls.map V.str) lo hi = (cutG ls lo hi).map V.str := by
  unfold cutV cutG
  rw [List.length_map, List.map_take, List.map_drop]
theorem cutG_len {α : Type} (ls : List α) (lo hi : Option Int) : (cutG ls lo hi).length ≤ ls.length := by
  unfold cutG
  rw [List.length_take, List.length_drop]
  omega
theorem cut_to_nat {α : Type} (ws : List α) {d : Int} (h0 : 0 ≤ d) (h1 : d ≤ ws.length) : cutG ws none (some d) = ws.take d.toNat := by
  obtain ⟨n, rfl⟩ := Int.eq_ofNat_of_zero_le h0
  unfold cutG
  rw [HT.sIx_none, HT.sIx_nat, Nat.min_eq_left (by omega), List.drop_zero, Nat.sub_zero]; rfl
theorem cut_from_nat {α : Type} (ws : List α) {d : Int} (h0 : 0 ≤ d) : cutG ws (some d) none = ws.drop d.toNat := by
  obtain ⟨n, rfl⟩ := Int.eq_ofNat_of_zero_le h0
  unfold cutG
  rw [HT.sIx_none, HT.sIx_nat]
  show (ws.drop (min n ws.length)).take (ws.length - min n ws.length) = ws.drop n
  by_cases h : n ≤ ws.length
  · rw [Nat.min_eq_left h, List.take_of_length_le (by rw [List.length_drop]; exact Nat.le_refl _)]
  · rw [Nat.min_eq_right (by omega), Nat.sub_self, List.take_zero, List.drop_eq_nil_of_le (by omega)]
end KG

/-! formulas, their words, and how words are read -/
namespace KG
open PySem PySem.Spec PyProof.Rows L2
inductive Fm
  | num (n : Int)
  | one (w : Str) (f : Fm)
  | two (w : Str) (f g : Fm)
def Fm.ws : Fm → List Str
  | .num n => [numS n]
  | .one w f => w :: f.ws
  | .two w f g => w :: (f.ws ++ g.ws)
def Fm.ht : Fm → Nat
  | .num _ => 0
  | .one _ f => f.ht + 1
  | .two _ f g => max f.ht g.ht + 1
def ones : List Str := ["neg", "root"]
def twos : List Str := ["add", "sub", "mul", "div"]
def Fm.ok : Fm → Prop
  | .num n => n.natAbs < 10 ^ 30
  | .one w f => w ∈ ones ∧ f.ok
  | .two w f g => w ∈ twos ∧ f.ok ∧ g.ok
/-- the formula stands at t -/
inductive FAt (H : Hp) : Addr → Fm → Prop
  | num {t : Addr} {n : Int} : H t = some (.tup [.str "number", .int n]) → FAt H t (.num n)
  | one {t a : Addr} {w : Str} {f : Fm} : H t = some (.tup [.str w, .ref a]) → FAt H a f → FAt H t (.one w f)
  | two {t a b : Addr} {w : Str} {f g : Fm} : H t = some (.tup [.str w, .ref a, .ref b]) → FAt H a f → FAt H b g → FAt H t (.two w f g)
theorem FAt.mono {H H' : Hp} {t : Addr} {f : Fm} (h : FAt H t f) (k : ∀ t xs, H t = some (.tup xs) → H' t = some (.tup xs)) : FAt H' t f := by
  induction h with
  | num e => exact .num (k _ _ e)
  | one e _ ih => exact .one (k _ _ e) ih
  | two e _ _ ih1 ih2 => exact .two (k _ _ e) ih1 ih2
theorem FAt.same {H H' : Hp} {t : Addr} {f : Fm} (h : FAt H t f) (s : Same H H') : FAt H' t f := h.mono fun t xs e => s t _ e
theorem FAt.put {H : Hp} {t r : Addr} {f : Fm} {xs ys : List V} (h : FAt H t f) (e : H r = some (.lst xs)) : FAt (upd H r (.lst ys)) t f := h.mono fun t zs e2 => by
  rw [upd_ne (ne_of e2 e (by intro z; cases z))]; exact e2
theorem FAt.but {H H' : Hp} {t p a : Addr} {f : Fm} {ns : List Int} (h : FAt H t f) (X : StX H p a ns) (b : But p H H') : FAt H' t f := h.mono fun t xs e => b _ _ (fun z => by
  obtain ⟨_, _, _, _, e2, _⟩ := X
  rw [z, e2] at e; cases e) e
/-- several of them, in a list -/
inductive FsAt (H : Hp) : List V → List Fm → Prop
  | nil : FsAt H [] []
  | cons {t : Addr} {f : Fm} {us : List V} {fs : List Fm} : FAt H t f → FsAt H us fs → FsAt H (.ref t :: us) (f :: fs)
theorem FsAt.mono {H H' : Hp} {us : List V} {fs : List Fm} (h : FsAt H us fs) (k : ∀ t xs, H t = some (.tup xs) → H' t = some (.tup xs)) : FsAt H' us fs := by
  induction h with
  | nil => exact .nil
  | cons e _ ih => exact .cons (e.mono k) ih
theorem FsAt.same {H H' : Hp} {us : List V} {fs : List Fm} (h : FsAt H us fs) (s : Same H H') : FsAt H' us fs := h.mono fun t xs e => s t _ e
theorem FsAt.put {H : Hp} {r : Addr} {us : List V} {fs : List Fm} {xs ys : List V} (h : FsAt H us fs) (e : H r = some (.lst xs)) : FsAt (upd H r (.lst ys)) us fs := h.mono fun t zs e2 => by
  rw [upd_ne (ne_of e2 e (by intro z; cases z))]; exact e2
theorem FsAt.len {H : Hp} {us : List V} {fs : List Fm} (h : FsAt H us fs) : us.length = fs.length := by
  induction h with
  | nil => rfl
  | cons _ _ ih => rw [List.length_cons, List.length_cons, ih]
theorem FsAt.snoc {H : Hp} {us : List V} {fs : List Fm} (h : FsAt H us fs) {t : Addr} {f : Fm} (e : FAt H t f) : FsAt H (us ++ [.ref t]) (fs ++ [f]) := by
  induction h with
  | nil => exact .cons e .nil
  | cons e1 _ ih => exact .cons e1 ih
theorem FsAt.last {H : Hp} : ∀ {us : List V} {fs : List Fm}, FsAt H us fs → fs ≠ [] → ∃ us' t fs' f, us = us' ++ [.ref t] ∧ fs = fs' ++ [f] ∧ FAt H t f ∧ FsAt H us' fs'
  | _, _, .nil, h => absurd rfl h
  | _, _, .cons (t := t) (f := f) (us := us) (fs := fs) e r, _ => by
    cases r with
    | nil => exact ⟨[], t, [], f, rfl, rfl, e, .nil⟩
    | cons e2 r2 =>
      obtain ⟨us', t', fs', f', h1, h2, h3, h4⟩ := FsAt.last (.cons e2 r2) (List.cons_ne_nil _ _)
      exact ⟨.ref t :: us', t', f :: fs', f', by rw [h1]; rfl, by rw [h2]; rfl, h3, .cons e h4⟩
/-! how many formulas stand in a formula with this word -/
def partsD : List (Str × Int) := [("add", 2), ("sub", 2), ("mul", 2), ("div", 2), ("neg", 1), ("root", 1)]
def pn (y : Str) : Nat := if y ∈ twos then 2 else if y ∈ ones then 1 else 0
theorem kd_parts (y : Str) : kdOr partsD y (.int 0) = .int (pn y : Int) := by
  by_cases h1 : y = "add"
  · subst h1; decide +kernel
  by_cases h2 : y = "sub"
  · subst h2; decide +kernel
  by_cases h3 : y = "mul"
  · subst h3; decide +kernel
  by_cases h4 : y = "div"
  · subst h4; decide +kernel
  by_cases h5 : y = "neg"
  · subst h5; decide +kernel
  by_cases h6 : y = "root"
  · subst h6; decide +kernel
  have ne : ∀ k : Str, y ≠ k → (y == k) = false := fun k h => by rw [beq_eq_false_iff_ne]; exact h
  have e : partsD.lookup y = none := by
    unfold partsD
    rw [List.lookup_cons, ne _ h1, List.lookup_cons, ne _ h2, List.lookup_cons, ne _ h3, List.lookup_cons, ne _ h4, List.lookup_cons, ne _ h5, List.lookup_cons, ne _ h6]; rfl
  have t : y ∉ twos := by simp [twos, h1, h2, h3, h4]
  have o : y ∉ ones := by simp [ones, h5, h6]
  unfold kdOr pn
  rw [e, if_neg t, if_neg o]; rfl
theorem pn_le (y : Str) : pn y ≤ 2 := by unfold pn; split <;> (try split) <;> decide
theorem pn_two {y : Str} (h : pn y = 2) : y ∈ twos := by
  unfold pn at h
  split at h
  · assumption
  · split at h <;> cases h
theorem pn_one {y : Str} (h : pn y = 1) : y ∈ ones := by
  unfold pn at h
  split at h
  · cases h
  · split at h
    · assumption
    · cases h
theorem two_pn {y : Str} (h : y ∈ twos) : pn y = 2 := by unfold pn; rw [if_pos h]
theorem one_pn {y : Str} (h : y ∈ ones) : pn y = 1 := by
  have : y ∉ twos := by
    intro k
    have e : ∀ z ∈ ones, z ∉ twos := by decide +kernel
    exact e y h k
  unfold pn; rw [if_neg this, if_pos h]
/-- the place of the first word that cannot stand; m formulas are due -/
def flt : Nat → Nat → List Str → Option Nat
  | at_, m, [] => if 0 < m then some at_ else none
  | at_, m, w :: r => if m = 0 ∨ (pn w = 0 ∧ isWhole w = false) then some at_ else flt (at_ + 1) (m + pn w - 1) r
def faultF (ws : List Str) : Option Nat := flt 0 1 ws
/-- how many formulas are due ahead of the j-th word -/
def mis : Nat → List Str → Nat → Nat
  | m, _, 0 => m
  | m, [], _ + 1 => m
  | m, w :: r, j + 1 => mis (m + pn w - 1) r j
theorem flt_none : ∀ (ws : List Str) (at_ m : Nat), flt at_ m ws = none → mis m ws ws.length = 0 ∧ ∀ j (h : j < ws.length), 1 ≤ mis m ws j ∧ (pn ws[j] = 0 → isWhole ws[j] = true) ∧ mis m ws (j + 1) = mis m ws j + pn ws[j] - 1
  | [], at_, m, h => by
    refine ⟨?_, fun j hj => absurd hj (Nat.not_lt_zero j)⟩
    unfold flt at h
    split at h
    · cases h
    · show m = 0
      omega
  | w :: r, at_, m, h => by
    unfold flt at h
    split at h
    · cases h
    · rename_i hn
      obtain ⟨h1, h2⟩ := flt_none r (at_ + 1) (m + pn w - 1) h
      refine ⟨h1, fun j hj => ?_⟩
      cases j with
      | zero =>
        refine ⟨?_, fun e => ?_, ?_⟩
        · show 1 ≤ m
          have : ¬ m = 0 := fun z => hn (.inl z)
          omega
        · show isWhole w = true
          cases q : isWhole w with
          | true => rfl
          | false => exact absurd (Or.inr ⟨e, q⟩) hn
        · cases r <;> rfl
      | succ j =>
        have hj : j < r.length := by rw [List.length_cons] at hj; omega
        exact h2 j hj
theorem flt_some_le : ∀ (ws : List Str) (at_ m k : Nat), flt at_ m ws = some k → k ≤ at_ + ws.length
  | [], at_, m, k, h => by
    unfold flt at h
    split at h
    · rw [← Option.some.inj h]; exact Nat.le_refl _
    · cases h
  | w :: r, at_, m, k, h => by
    unfold flt at h
    split at h
    · rw [← Option.some.inj h]; exact Nat.le_add_right _ _
    · have := flt_some_le r _ _ k h
      rw [List.length_cons]; omega
/-- the words of formulas, the last one first -/
def backW (fs : List Fm) : List Str := fs.reverse.flatMap Fm.ws
theorem backW_snoc (fs : List Fm) (f : Fm) : backW (fs ++ [f]) = f.ws ++ backW fs := by unfold backW; rw [List.reverse_append, List.reverse_singleton, List.singleton_append, List.flatMap_cons]
theorem ws_ne : ∀ f : Fm, f.ws ≠ []
  | .num _ => List.cons_ne_nil _ _
  | .one _ _ => List.cons_ne_nil _ _
  | .two _ _ _ => List.cons_ne_nil _ _
theorem ht_lt : ∀ f : Fm, f.ht < f.ws.length
  | .num _ => by show 0 < 1; decide
  | .one w f => by
    have := ht_lt f
    show f.ht + 1 < f.ws.length + 1
    omega
  | .two w f g => by
    have := ht_lt f
    have := ht_lt g
    show max f.ht g.ht + 1 < (f.ws ++ g.ws).length + 1
    rw [List.length_append]; omega
/-- whole words that are read by int have no fault -/
theorem flt_ok : ∀ (f : Fm) (at_ m : Nat) (r : List Str), f.ok → flt at_ (m + 1) (f.ws ++ r) = flt (at_ + f.ws.length) m r
  | .num n, at_, m, r, h => by
    have hw := whole_num h
    have h0 : ¬ (m + 1 = 0 ∨ (pn (numS n) = 0 ∧ isWhole (numS n) = false)) := by rw [hw]; simp
    have hp : pn (numS n) = 0 := by
      have e : ∀ z ∈ twos ++ ones, isWhole z = false := by decide +kernel
      unfold pn
      have n2 : numS n ∉ twos := fun z => by
        have q := e _ (List.mem_append_left _ z)
        rw [hw] at q; cases q
      have n1 : numS n ∉ ones := fun z => by
        have q := e _ (List.mem_append_right _ z)
        rw [hw] at q; cases q
      rw [if_neg n2, if_neg n1]
    show (if _ then _ else flt (at_ + 1) (m + 1 + pn (numS n) - 1) r) = flt (at_ + 1) m r
    rw [if_neg h0, hp]; rfl
  | .one w f, at_, m, r, h => by
    have hp := one_pn h.1
    have h0 : ¬ (m + 1 = 0 ∨ (pn w = 0 ∧ isWhole w = false)) := by rw [hp]; simp
    show (if _ then _ else flt (at_ + 1) (m + 1 + pn w - 1) (f.ws ++ r)) = flt (at_ + (f.ws.length + 1)) m r
    rw [if_neg h0, hp, show m + 1 + 1 - 1 = m + 1 by omega, flt_ok f (at_ + 1) m r h.2, show at_ + 1 + f.ws.length = at_ + (f.ws.length + 1) by omega]
  | .two w f g, at_, m, r, h => by
    have hp := two_pn h.1
    have h0 : ¬ (m + 1 = 0 ∨ (pn w = 0 ∧ isWhole w = false)) := by rw [hp]; simp
    show (if _ then _ else flt (at_ + 1) (m + 1 + pn w - 1) (f.ws ++ g.ws ++ r)) = flt (at_ + ((f.ws ++ g.ws).length + 1)) m r
    rw [if_neg h0, hp, List.append_assoc, show m + 1 + 2 - 1 = (m + 1) + 1 by omega, flt_ok f (at_ + 1) (m + 1) _ h.2.1, flt_ok g _ m r h.2.2, List.length_append]
    congr 1; omega
theorem fault_ok {f : Fm} (h : f.ok) : faultF f.ws = none := by
  have := flt_ok f 0 0 [] h
  rw [List.append_nil] at this
  unfold faultF
  rw [this]; rfl
/-- two formulas with the same words are one -/
theorem ws_inj : ∀ (f g : Fm) (r q : List Str), f.ok → g.ok → f.ws ++ r = g.ws ++ q → f = g ∧ r = q
  | .num m, .num n, r, q, _, _, e => by
    obtain ⟨e1, e2⟩ := List.cons.inj e
    rw [numS_inj e1]; exact ⟨rfl, e2⟩
  | .num m, .one w g, r, q, h, k, e => by
    have e1 := (List.cons.inj e).1
    have a := whole_num h
    have b : ∀ z ∈ ones, isWhole z = false := by decide +kernel
    rw [e1, b w k.1] at a; cases a
  | .num m, .two w g1 g2, r, q, h, k, e => by
    have e1 := (List.cons.inj e).1
    have a := whole_num h
    have b : ∀ z ∈ twos, isWhole z = false := by decide +kernel
    rw [e1, b w k.1] at a; cases a
  | .one w f, .num n, r, q, h, k, e => by
    have e1 := (List.cons.inj e).1
    have a := whole_num k
    have b : ∀ z ∈ ones, isWhole z = false := by decide +kernel
    rw [← e1, b w h.1] at a; cases a
  | .two w f1 f2, .num n, r, q, h, k, e => by
    have e1 := (List.cons.inj e).1
    have a := whole_num k
    have b : ∀ z ∈ twos, isWhole z = false := by decide +kernel
    rw [← e1, b w h.1] at a; cases a
  | .one w f, .one v g, r, q, h, k, e => by
    obtain ⟨e1, e2⟩ := List.cons.inj e
    obtain ⟨e3, e4⟩ := ws_inj f g r q h.2 k.2 e2
    rw [show w = v from e1, e3]; exact ⟨rfl, e4⟩
  | .one w f, .two v g1 g2, r, q, h, k, e => by
    have e1 : w = v := (List.cons.inj e).1
    have a := one_pn h.1
    rw [e1, two_pn k.1] at a; cases a
  | .two w f1 f2, .one v g, r, q, h, k, e => by
    have e1 : w = v := (List.cons.inj e).1
    have a := two_pn h.1
    rw [e1, one_pn k.1] at a; cases a
  | .two w f1 f2, .two v g1 g2, r, q, h, k, e => by
    obtain ⟨e1, e2⟩ := List.cons.inj e
    have e2 : f1.ws ++ f2.ws ++ r = g1.ws ++ g2.ws ++ q := e2
    rw [List.append_assoc, List.append_assoc] at e2
    obtain ⟨e3, e4⟩ := ws_inj f1 g1 _ _ h.2.1 k.2.1 e2
    obtain ⟨e5, e6⟩ := ws_inj f2 g2 _ _ h.2.2 k.2.2 e4
    rw [show w = v from e1, e3, e5]; exact ⟨rfl, e6⟩
/-- a word of a formula has no blank and no newline -/
theorem num_plain {n : Int} {c : Nat} (h : c = 10 ∨ c = 32) : c ∉ TL.tl (numS n) := by
  rw [tl_numS]
  unfold signs
  have hl : c ∉ TL.numL n.natAbs := TL.numL_free (.inl (by omega))
  split
  · intro hm
    rcases List.mem_cons.mp hm with e | e
    · omega
    · exact hl e
  · exact hl
theorem ws_plain : ∀ f : Fm, f.ok → ∀ w ∈ f.ws, 32 ∉ TL.tl w ∧ w.length ≤ 31
  | .num n, h, w, hw => by
    rw [List.mem_singleton.mp hw]
    obtain ⟨_, _, _, _, h4⟩ := canon_read (whole_num h)
    exact ⟨num_plain (.inr rfl), h4⟩
  | .one v f, h, w, hw => by
    rcases List.mem_cons.mp hw with e | e
    · have b : ∀ z ∈ ones, 32 ∉ TL.tl z ∧ z.length ≤ 31 := by decide +kernel
      rw [e]; exact b v h.1
    · exact ws_plain f h.2 w e
  | .two v f g, h, w, hw => by
    rcases List.mem_cons.mp hw with e | e
    · have b : ∀ z ∈ twos, 32 ∉ TL.tl z ∧ z.length ≤ 31 := by decide +kernel
      rw [e]; exact b v h.1
    · rcases List.mem_append.mp e with e | e
      · exact ws_plain f h.2.1 w e
      · exact ws_plain g h.2.2 w e
end KG

namespace KJ
open PySem PySem.Spec PyProof.Rows L2 KG
def topS (i : Nat) : Stmt := PySem.Challenge.pw_compasswork_k11_faults_of_formula_texts.main.body.getD i (.Pass ⟨0, 0, 0, 0⟩)
/-- the built-in names stand as they are -/
structure Names (mg : Str → Option Value) : Prop where
  ValueError : mg "ValueError" = none
  int : mg "int" = none
  reversed : mg "reversed" = none
  enumerate : mg "enumerate" = none
  range : mg "range" = none
  len : mg "len" = none
  abs : mg "abs" = none
  isinstance : mg "isinstance" = none
  bool : mg "bool" = none
  str : mg "str" = none
  all : mg "all" = none
abbrev s_law_state : Stmt := topS 11
abbrev N_law_state : List Str := ["script", "mixed", "rest"]
theorem sc_law_state : FnScope N_law_state ["script"] (defScope s_law_state) := ⟨rfl, rfl, rfl, by decide +kernel, rfl, by decide +kernel, by decide +kernel⟩
abbrev s_law_take : Stmt := topS 12
abbrev N_law_take : List Str := ["state", "many", "cell", "drawn"]
theorem sc_law_take : FnScope N_law_take ["state", "many"] (defScope s_law_take) := ⟨rfl, rfl, rfl, by decide +kernel, rfl, by decide +kernel, by decide +kernel⟩
section
variable {P : Program} {w : World} {K : PySem.W.Frag} {mg : Str → Option Value} {base : Heap}
def sp_law_state (K : PySem.W.Frag) : Sp := fun vs H Q _ => ∃ (a : Addr) (ns : List Int), vs = [.ref a] ∧ SqL K H a (ns.map V.int) ∧ ns.length ≤ 63 ∧
  ∀ H' p, Same H H' → H p = none → StX H' p a ns → SqO K H' p a (ns.map V.int) → Q (.ref p) H'
theorem ok_law_state {f : Addr} {fd : FuncData} {k : Nat} (F : Fun K "_law_state" "_law_state" s_law_state f fd) (M : Names mg) : FnOk P w K mg base CX0 (k + 1) f fd ["script"] (sp_law_state K) := by
  refine F.ok sc_law_state (fun vs H Q E h => ?_) (fun cdv A outer s H vs Q E hr h => ?_)
  · obtain ⟨a, ns, rfl, _⟩ := h
    rfl
  obtain ⟨a, ns, rfl, hS, h63, q⟩ := h
  refine ⟨_, (pss_cons (ps_set (i := 1) sc_law_state.nd rfl (.inl rfl) pe_int)
    (pss_cons (ps_set (i := 2) sc_law_state.nd rfl (.inl rfl) pe_int)
    (pss_cons (ps_if (pt_cmpR op_gt (pe_callB call_len_seq (by rfl) M.len PySem.boot_len (pa_cons (pv 0) pa_nil)) pe_int (nomark _))
      (pss_cons (ps_set (i := 1) sc_law_state.nd rfl (.inl rfl) (pe_op op_mod (pe_callTy call_int1 (by rfl) M.int (by decide +kernel) (pa_cons (pe_ix ix_list (pv 0) pe_int (fun _ _ => rfl)) pa_nil)) pe_int))
      (pss_one (ps_set (i := 2) sc_law_state.nd rfl (.inl rfl) (pe_ix ix_list (pe_lst (pa_cons (pe_op op_fdiv (pe_callB call_abs (by rfl) M.abs (by decide +kernel) (pa_cons (pe_ix ix_list (pv 0) pe_int (fun _ _ => rfl)) pa_nil)) pe_int) (pa_cons pe_int pa_nil))) (pv 1) (fun _ _ => rfl)))))
      pss_nil)
    (pss_one (ps_ret (pe_lst (pa_cons (pv 0) (pa_cons (pv 2) (pa_cons pe_int (pa_cons (pv 1) (pa_cons (pe_lst pa_nil) (pa_cons pe_int (pa_cons pe_int (pa_cons pe_int pa_nil)))))))))))))), ?_⟩
  -- the end, once for both ways
  have fin : ∀ (r m : Int) (H1 : Hp), Same H H1 → StOk ns r 1 m → ∀ e, H1 e = none → ∀ p, (upd H1 e (.lst [])) p = none → Q (.ref p) (upd (upd H1 e (.lst [])) p (.lst (stL a e r 1 m))) := fun r m H1 sm ok e he p hp => by
    have s2 : Same H1 (upd H1 e (.lst [])) := same_new he _
    have s3 : Same (upd H1 e (.lst [])) (upd (upd H1 e (.lst [])) p (.lst (stL a e r 1 m))) := same_new hp _
    exact q _ p (sm.trans (s2.trans s3)) (sm.free (s2.free hp)) ⟨e, r, 1, m, upd_same, ok⟩ ((SqO.new (s2.seq (sm.seq hS)) hp).but (.put _ _))
  refine ⟨_, rfl, a, _, rfl, .inl hS, _, _, rfl, rfl, _, rfl, ite2 (fun c => ?_) (fun c => ?_)⟩
  · have hl : (ns.map V.int).length = ns.length := List.length_map _
    have hpos : 0 < ns.length := by
      have := of_decide_eq_true c
      rw [hl] at this; omega
    obtain ⟨v, hv⟩ := at_n (ns := ns) (i := 0) (by omega) (by omega)
    refine ⟨_, rfl, a, _, _, _, rfl, rfl, hS, hv, .inl ⟨_, rfl, ?_⟩⟩
    refine ⟨_, _, rfl, rfl, (by show (0 : Int) < 2; decide), ?_⟩
    refine ⟨_, rfl, a, _, _, _, rfl, rfl, hS, hv, _, rfl, _, _, rfl, rfl, ⟨by decide, by decide⟩, (by show 2 ≤ sizeLine; decide), fun t ht => ?_⟩
    have h2 : v % 2 = 0 ∨ v % 2 = 1 := by omega
    rcases h2 with h2 | h2
    · rw [show (fun i j => V.int (i % j)) v 2 = V.int 0 from congrArg V.int h2]
      refine ⟨_, rfl, t, _, 0, _, rfl, rfl, SqL.of upd_same, atI_nat (j := 0) rfl, ?_⟩
      refine ⟨_, rfl, _, rfl, _, rfl, Nat.zero_le _, fun e he => ⟨(by show 8 ≤ sizeLine; decide), fun p hp => ?_⟩⟩
      exact fin _ _ _ (same_new ht _) (.inr ⟨rfl, by split <;> omega, by decide⟩) e he p hp
    · rw [show (fun i j => V.int (i % j)) v 2 = V.int 1 from congrArg V.int h2]
      refine ⟨_, rfl, t, _, 1, _, rfl, rfl, SqL.of upd_same, atI_nat (j := 1) rfl, ?_⟩
      refine ⟨_, rfl, _, rfl, _, rfl, Nat.zero_le _, fun e he => ⟨(by show 8 ≤ sizeLine; decide), fun p hp => ?_⟩⟩
      exact fin _ _ _ (same_new ht _) (.inl ⟨rfl, hpos⟩) e he p hp
  · refine ⟨_, rfl, _, rfl, _, rfl, Nat.zero_le _, fun e he => ⟨(by show 8 ≤ sizeLine; decide), fun p hp => ?_⟩⟩
    exact fin _ _ _ (Same.refl _) (.inr ⟨rfl, by decide, by decide⟩) e he p hp
def sp_law_take (K : PySem.W.Frag) : Sp := fun vs H Q _ => ∃ (p a : Addr) (ns : List Int) (many : Int), vs = [.ref p, .int many] ∧ StX H p a ns ∧ SqO K H p a (ns.map V.int) ∧ 0 < many ∧ many.natAbs.log2 < 9000 ∧
  ∀ (d : Int) (H' : Hp), 0 ≤ d → d < many → StX H' p a ns → But p H H' → Q (.int d) H'
theorem ok_law_take {f : Addr} {fd : FuncData} {k : Nat} (F : Fun K "_law_take" "_law_take" s_law_take f fd) (M : Names mg) : FnOk P w K mg base CX0 (k + 1) f fd ["state", "many"] (sp_law_take K) := by
  refine F.ok sc_law_take (fun vs H Q E h => ?_) (fun cdv A outer s H vs Q E hr h => ?_)
  · obtain ⟨p, a, ns, many, rfl, _⟩ := h
    rfl
  obtain ⟨p, a, ns, many, rfl, ⟨e, r, c, m, hp, ok⟩, hS, h0, h9, q⟩ := h
  refine ⟨_, (pss_cons (ps_if (pt_cmpR op_eq (pe_ix ix_list (pv 0) pe_int (fun _ _ => rfl)) pe_int (nomark _))
      (pss_cons (ps_set (i := 2) sc_law_take.nd rfl (.inl rfl) (pe_ix ix_list (pe_ix ix_list (pv 0) pe_int (fun _ _ => rfl)) (pe_op op_mod (pe_callTy call_int1 (by rfl) M.int (by decide +kernel) (pa_cons (pe_ix ix_list (pv 0) pe_int (fun _ _ => rfl)) pa_nil)) (pe_callB call_len_seq (by rfl) M.len PySem.boot_len (pa_cons (pe_ix ix_list (pv 0) pe_int (fun _ _ => rfl)) pa_nil))) (fun _ _ => rfl)))
      (pss_cons (ps_asg (pe_op op_mod (pe_callTy call_int1 (by rfl) M.int (by decide +kernel) (pa_cons (pe_op op_add (pe_op op_add (pe_op op_add (pe_op op_mul (pe_ix ix_list (pv 0) pe_int (fun _ _ => rfl)) pe_int) (pe_op op_mul (pv 2) pe_int)) (pe_op op_mul (pe_ix ix_list (pv 0) pe_int (fun _ _ => rfl)) pe_int)) pe_int) pa_nil)) pe_int) (pg_sub (pv 0) pe_int set_list))
      (pss_cons (ps_asg (pe_op op_add (pe_ix ix_list (pv 0) pe_int (fun _ _ => rfl)) pe_int) (pg_sub (pv 0) pe_int set_list))
      (pss_one (ps_ret (pe_op op_mod (pe_op op_mod (pe_callTy call_int1 (by rfl) M.int (by decide +kernel) (pa_cons (pe_op op_add (pe_op op_mul (pe_ix ix_list (pv 0) pe_int (fun _ _ => rfl)) pe_int) pe_int) pa_nil)) pe_int) (pv 1)))))))
      pss_nil)
    (pss_cons (ps_if (pt_cmpR op_eq (pe_ix ix_list (pv 0) pe_int (fun _ _ => rfl)) pe_int (nomark _))
      (pss_cons (ps_if (pt_cmpR op_ge (pe_ix ix_list (pv 0) pe_int (fun _ _ => rfl)) (pe_callB call_len_seq (by rfl) M.len PySem.boot_len (pa_cons (pe_ix ix_list (pv 0) pe_int (fun _ _ => rfl)) pa_nil)) (nomark _))
        (pss_one (ps_ret pe_int))
        pss_nil)
      (pss_cons (ps_asg (pe_callB call_abs (by rfl) M.abs (by decide +kernel) (pa_cons (pe_ix ix_list (pe_ix ix_list (pv 0) pe_int (fun _ _ => rfl)) (pe_ix ix_list (pv 0) pe_int (fun _ _ => rfl)) (fun _ _ => rfl)) pa_nil)) (pg_sub (pv 0) pe_int set_list))
      (pss_one (ps_asg (pe_op op_add (pe_ix ix_list (pv 0) pe_int (fun _ _ => rfl)) pe_int) (pg_sub (pv 0) pe_int set_list)))))
      pss_nil)
    (pss_cons (ps_set (i := 3) sc_law_take.nd rfl (.inl rfl) (pe_op op_mod (pe_callTy call_int1 (by rfl) M.int (by decide +kernel) (pa_cons (pe_ix ix_list (pv 0) pe_int (fun _ _ => rfl)) pa_nil)) (pv 1)))
    (pss_cons (ps_asg (pe_op op_fdivW (pe_ix ix_list (pv 0) pe_int (fun _ _ => rfl)) (pv 1)) (pg_sub (pv 0) pe_int set_list))
    (pss_one (ps_ret (pv 3))))))), ?_⟩
  have hSn : SqL K H a (ns.map V.int) := hS.now hp
  have hl : (ns.map V.int).length = ns.length := List.length_map _
  refine ⟨_, rfl, p, _, 3, _, rfl, rfl, SqL.of hp, atI_nat (j := 3) rfl, rfl, _, rfl, ite2 (fun t1 => ?_) (fun t1 => ?_)⟩
  · -- mixed draws
    have m1 : m = 1 := V.int.inj (of_decide_eq_true t1)
    have npos : 0 < ns.length := by
      rcases ok with ⟨_, z⟩ | ⟨z, _⟩
      · exact z
      · omega
    obtain ⟨v, hv⟩ := at_n (ns := ns) (i := c % ((ns.map V.int).length : Nat)) (Int.emod_nonneg _ (by omega)) (by rw [hl]; exact Int.emod_lt_of_pos _ (by omega))
    refine ⟨_, rfl, p, _, 0, _, rfl, rfl, SqL.of hp, atI_nat (j := 0) rfl, _, rfl, p, _, 2, _, rfl, rfl, SqL.of hp, atI_nat (j := 2) rfl, .inl ⟨_, rfl, ?_⟩⟩
    refine ⟨_, rfl, p, _, 0, _, rfl, rfl, SqL.of hp, atI_nat (j := 0) rfl, a, _, rfl, .inl hSn, _, _, rfl, rfl, (by show (0 : Int) < ((ns.map V.int).length : Nat); omega), a, _, _, _, rfl, rfl, hSn, hv, ?_⟩
    -- state[1] = ..
    refine ⟨_, rfl, p, _, 1, _, rfl, rfl, SqL.of hp, atI_nat (j := 1) rfl, _, _, rfl, rfl, .inr ⟨by decide, by decide⟩, _, rfl, _, _, rfl, rfl, .inr ⟨by decide, by decide⟩, _, _, rfl, rfl, _, rfl, p, _, 2, _, rfl, rfl, SqL.of hp, atI_nat (j := 2) rfl, _, _, rfl, rfl, .inr ⟨by decide, by decide⟩, _, _, rfl, rfl, _, _, rfl, rfl, .inl ⟨_, rfl, ?_⟩⟩
    refine ⟨_, _, rfl, rfl, (by show (0 : Int) < 2147483647; decide), _, rfl, p, _, 1, 1, rfl, rfl, hp, rfl, ?_⟩
    -- state[2] = ..
    refine ⟨_, rfl, p, _, 2, _, rfl, rfl, SqL.of upd_same, atI_nat (j := 2) rfl, _, _, rfl, rfl, _, rfl, p, _, 2, 2, rfl, rfl, upd_same, rfl, ?_⟩
    refine ⟨_, rfl, p, _, 1, _, rfl, rfl, SqL.of upd_same, atI_nat (j := 1) rfl, _, _, rfl, rfl, .inr ⟨by decide, by decide⟩, _, _, rfl, rfl, .inl ⟨_, rfl, ?_⟩⟩
    refine ⟨_, _, rfl, rfl, (by show (0 : Int) < 2147483629; decide), _, rfl, _, _, rfl, rfl, h0, ?_⟩
    refine q _ _ (Int.emod_nonneg _ (by omega)) (Int.emod_lt_of_pos _ h0) ⟨e, _, _, m, upd_same, ?_⟩ ((But.put _ _).trans (.put _ _))
    exact .inl ⟨m1, npos⟩
  · -- whole numbers, drawn from by their rests
    have m0 : m = 0 ∧ 0 ≤ r ∧ 0 ≤ c := by
      rcases ok with ⟨z, _⟩ | z
      · exact absurd (by rw [z]; rfl) t1
      · exact z
    obtain ⟨rfl, r0, c0⟩ := m0
    have fin : ∀ (r1 c1 : Int) (H1 : Hp), 0 ≤ r1 → 0 ≤ c1 → But p H H1 → H1 p = some (.lst (stL a e r1 c1 0)) → ∀ d, d = r1 % many → Q (.int d) (upd H1 p (.lst (stL a e (r1 / many) c1 0))) := fun r1 c1 H1 k1 k2 k3 k4 d hd => by
      subst hd
      exact q _ _ (Int.emod_nonneg _ (by omega)) (Int.emod_lt_of_pos _ h0) ⟨e, _, _, 0, upd_same, .inr ⟨rfl, Int.ediv_nonneg k1 (by omega), k2⟩⟩ (k3.trans (.put _ _))
    refine ⟨_, rfl, p, _, 1, _, rfl, rfl, SqL.of hp, atI_nat (j := 1) rfl, rfl, _, rfl, ite2 (fun t2 => ?_) (fun t2 => ?_)⟩
    · refine ⟨_, rfl, p, _, 2, _, rfl, rfl, SqL.of hp, atI_nat (j := 2) rfl, _, rfl, p, _, 0, _, rfl, rfl, SqL.of hp, atI_nat (j := 0) rfl, a, _, rfl, .inl hSn, _, _, rfl, rfl, _, rfl, ite2 (fun t3 => ?_) (fun t3 => ?_)⟩
      · exact q _ _ (Int.le_refl 0) h0 ⟨e, r, c, 0, hp, ok⟩ (But.refl _ _)
      · have lt : c < ((ns.map V.int).length : Nat) := by
          have := of_decide_eq_false (Bool.eq_false_iff.mpr t3)
          omega
        obtain ⟨v, hv⟩ := at_n (ns := ns) (i := c) c0 (by omega)
        refine ⟨_, rfl, p, _, 0, _, rfl, rfl, SqL.of hp, atI_nat (j := 0) rfl, _, rfl, p, _, 2, _, rfl, rfl, SqL.of hp, atI_nat (j := 2) rfl, a, _, _, _, rfl, rfl, hSn, hv, _, rfl, _, rfl, p, _, 1, 1, rfl, rfl, hp, rfl, ?_⟩
        refine ⟨_, rfl, p, _, 2, _, rfl, rfl, SqL.of upd_same, atI_nat (j := 2) rfl, _, _, rfl, rfl, _, rfl, p, _, 2, 2, rfl, rfl, upd_same, rfl, ?_⟩
        refine ⟨_, rfl, p, _, 1, _, rfl, rfl, SqL.of upd_same, atI_nat (j := 1) rfl, .inl ⟨_, rfl, ?_⟩⟩
        refine ⟨_, rfl, _, _, rfl, rfl, h0, ?_⟩
        refine ⟨_, rfl, p, _, 1, _, rfl, rfl, SqL.of upd_same, atI_nat (j := 1) rfl, _, rfl, _, _, rfl, rfl, ⟨h0, h9⟩, _, rfl, p, _, 1, 1, rfl, rfl, upd_same, rfl, ?_⟩
        refine ⟨_, rfl, ?_⟩
        exact fin (if v < 0 then -v else v) (c + 1) (upd (upd H p _) p _) (by split <;> omega) (by omega) ((But.put _ _).trans (.put _ _)) upd_same _ rfl
    · refine ⟨_, rfl, p, _, 1, _, rfl, rfl, SqL.of hp, atI_nat (j := 1) rfl, .inl ⟨_, rfl, ?_⟩⟩
      refine ⟨_, rfl, _, _, rfl, rfl, h0, ?_⟩
      refine ⟨_, rfl, p, _, 1, _, rfl, rfl, SqL.of hp, atI_nat (j := 1) rfl, _, rfl, _, _, rfl, rfl, ⟨h0, h9⟩, _, rfl, p, _, 1, 1, rfl, rfl, hp, rfl, ?_⟩
      refine ⟨_, rfl, ?_⟩
      exact fin r c H r0 c0 (But.refl _ _) hp _ rfl
end
end KJ

namespace KJ
open PySem PySem.Spec PyProof.Rows L2 KG
abbrev sinteger_of : Stmt := topS 5
abbrev Ninteger_of : List Str := ["word", "digits", "digit"]
theorem scinteger_of : FnScope Ninteger_of ["word"] (defScope sinteger_of) := ⟨rfl, rfl, rfl, by decide +kernel, rfl, by decide +kernel, by decide +kernel⟩
section
variable {P : Program} {w : World} {K : PySem.W.Frag} {mg : Str → Option Value} {base : Heap}
def sp_integer_of : Sp := fun vs H Q _ => ∃ x : Str, vs = [.str x] ∧ x.length ≤ 10000000 ∧ (∀ n : Int, isWhole x = true → intText? x = some n → numS n = x → Q (.int n) H) ∧ (isWhole x = false → Q .non H)
theorem ok_integer_of {f : Addr} {fd : FuncData} {k : Nat} {tm : Tok} (F : Fun K "integer_of" "integer_of" sinteger_of f fd) (M : Names mg) (gM : mg "MOST_DIGITS" = some (.int 30 tm)) : FnOk P w K mg base CX0 (k + 1) f fd ["word"] sp_integer_of := by
  refine F.ok scinteger_of (fun vs H Q E h => ?_) (fun cdv A outer s H vs Q E hr h => ?_)
  · obtain ⟨x, rfl, _⟩ := h
    rfl
  obtain ⟨x, rfl, hx, yes, no⟩ := h
  refine ⟨_, (pss_cons (ps_if (pt_cmpR op_eq (pv 0) pe_str (nomark _))
      (pss_one (ps_ret pe_int))
      pss_nil)
    (pss_cons (ps_set (i := 1) scinteger_of.nd rfl (.inl rfl) (pe_bm PySem.F.plainAttrs_str PySem.F.slot_str_removeprefix PySem.F.type_str_removeprefix mt_removeprefix (pv 0) (pa_cons pe_str pa_nil)))
    (pss_cons (ps_if (PW.pt (pw_or (pt_not (pt_chain op_le op_le pe_int (pe_callB call_len_str (by rfl) M.len PySem.boot_len (pa_cons (pv 1) pa_nil)) (pe_glob (v := .int 30) (by rfl) gM ⟨_, rfl⟩))) (pw_or1 (pt_cmpR op_eq (pe_ix ix_str (pv 1) pe_int (fun _ _ => rfl)) pe_str (nomark _)))))
      (pss_one (ps_ret pe_non))
      pss_nil)
    (pss_cons (ps_for PassesOwn.never rfl (pi_str (pv 1)) (pg_name (i := 2) scinteger_of.nd rfl (.inl rfl))
      (pss_one (ps_if (pt_cmpR op_notIn_sign (pv 2) pe_str (by rfl))
        (pss_one (ps_ret pe_non))
        pss_nil)))
    (pss_one (ps_ret (pe_callTy call_int_str (by rfl) M.int (by decide +kernel) (pa_cons (pv 0) pa_nil)))))))), ?_⟩
  have szl : ∀ y : Str, y.length ≤ x.length → y.length ≤ sizeLine := fun y h => by rw [sizeLine_eq]; omega
  have ny := szl _ (digs_le x)
  refine ⟨_, rfl, rfl, _, rfl, ite2 (fun c0 => ?_) (fun c0 => ?_)⟩
  · have e0 : x = "0" := V.str.inj (of_decide_eq_true c0)
    have hw : isWhole x = true := by rw [e0]; decide +kernel
    obtain ⟨n, h1, h2, _⟩ := canon_read hw
    have h3 : n = 0 := numS_inj (h2.trans (e0.trans (by decide +kernel)))
    have q := yes n hw h1 h2
    rw [h3] at q
    exact q
  have e0 : ¬ x = "0" := fun e => c0 (decide_eq_true (by rw [e]))
  refine ⟨_, rfl, rfl, x, "-", rfl, rfl, szl _ (Nat.le_refl _), ?_⟩
  rw [show Txt.removeprefix x "-" = digs x from removeprefix_digs x]
  have dl := digs_le x
  have wh : isWhole x = (decide (1 ≤ (digs x).length) && decide ((digs x).length ≤ 30) && (digs x).cps.toList.all (fun c => decide (c ∈ dec)) && decide ((digs x).cps[0]? ≠ some 48)) := by
    unfold isWhole; rw [decide_eq_false e0, Bool.false_or]
  generalize hd : digs x = d at ny dl wh
  refine ⟨_, rfl, _, rfl, ny, _, _, rfl, rfl, _, rfl, ite2 (fun c1 => ⟨_, _, rfl, rfl, _, rfl, ite2 (fun c2 => iteT ?B2) (fun c2 => ?GO)⟩) (fun c1 => ⟨_, rfl, iteT (iteT ?B1)⟩)⟩
  case B1 =>
    refine no ?_
    have h := of_decide_eq_false (Bool.eq_false_iff.mpr c1)
    rw [wh, decide_eq_false (show ¬ 1 ≤ d.length by omega)]; rfl
  case B2 =>
    refine no ?_
    have h : ¬ ((d.length : Int) ≤ 30) := of_decide_eq_false ((Bool.not_eq_true' _).mp c2)
    rw [wh, decide_eq_false (show ¬ d.length ≤ 30 by omega)]; simp
  have g1 : 1 ≤ d.length := by have := of_decide_eq_true c1; omega
  have g2 : d.length ≤ 30 := by
    have h : ((d.length : Int) ≤ 30) := of_decide_eq_true ((Bool.not_eq_false' (b := _)).mp (Bool.eq_false_iff.mpr c2))
    omega
  have hs : 0 < d.cps.size := g1
  have hg : d.cps[0]? = some d.cps[0] := Array.getElem?_eq_getElem hs
  have e5 : decide (V.str ⟨#[d.cps[0]]⟩ = V.str "0") = decide (d.cps[0] = 48) := by
    by_cases z : d.cps[0] = 48
    · rw [z]; rfl
    · rw [decide_eq_false z, decide_eq_false]
      intro y
      have y3 := congrArg (fun t : Str => t.cps.toList) (V.str.inj y)
      exact z (List.cons.inj (y3.trans (show ("0" : Str).cps.toList = [48] by decide +kernel))).1
  refine ⟨_, rfl, _, 0, d.cps[0], rfl, rfl, ny, atI_nat (j := 0) (by rw [Array.getElem?_toList]; exact hg), rfl, _, rfl, ?_⟩
  rw [e5]
  refine ite2 (fun c3 => ?_) (fun c3 => ?_)
  · refine no ?_
    rw [wh, hg, of_decide_eq_true c3]; simp
  have g3 : d.cps[0] ≠ 48 := of_decide_eq_false (Bool.eq_false_iff.mpr c3)
  have wh2 : isWhole x = d.cps.toList.all (fun c => decide (c ∈ dec)) := by
    rw [wh, hg, decide_eq_true g1, decide_eq_true g2, decide_eq_true (p := some _ ≠ some 48) (fun y => g3 (Option.some.inj y))]; simp
  refine ⟨_, rfl, d, rfl, ⟨fun i m σ H' => m = d.cps.size - i ∧ i ≤ d.cps.size ∧ H' = H ∧ (∃ y2 : Option V, σ = [some (.str x), some (.str d), y2]) ∧ ∀ j, j < i → ∀ c, d.cps[j]? = some c → c ∈ dec,
    ⟨_, rfl, Nat.zero_le _, rfl, ⟨none, rfl⟩, fun j h => by omega⟩, ?_⟩⟩
  rintro i m σ H' ⟨rfl, hi, rfl, ⟨y2, rfl⟩, hall⟩
  by_cases hlt : i < d.cps.size
  · refine .inr ⟨hlt, fun σ' H'' => H'' = H' ∧ (∃ y2 : Option V, σ' = [some (.str x), some (.str d), y2]) ∧ ∀ j, j < i + 1 → ∀ c, d.cps[j]? = some c → c ∈ dec, fun σ' H'' p => ⟨d.cps.size - (i + 1), by omega, rfl, hlt, p⟩, fun v H'' y => ?_⟩
    obtain ⟨rfl, c, hc, rfl⟩ := y
    refine ⟨_, rfl, c, _, rfl, rfl, _, rfl, ite2 (fun c4 => ?_) (fun c4 => ?_)⟩
    · refine no ?_
      have n4 : ¬ c ∈ dec := of_decide_eq_false ((Bool.not_eq_true' _).mp c4)
      rw [wh2, List.all_eq_false]
      exact ⟨c, List.mem_of_getElem? (i := i) (by rw [Array.getElem?_toList]; exact hc), by simpa using n4⟩
    · have n4 : c ∈ dec := of_decide_eq_true ((Bool.not_eq_false' (b := _)).mp (Bool.eq_false_iff.mpr c4))
      refine ⟨rfl, ⟨_, rfl⟩, fun j hj c' hc' => ?_⟩
      by_cases z : j = i
      · rw [z, hc] at hc'
        rw [← Option.some.inj hc']; exact n4
      · exact hall j (by omega) c' hc'
  · refine .inl ⟨by show d.cps.size ≤ i; omega, ?_⟩
    have hw : isWhole x = true := by
      rw [wh2, List.all_eq_true]
      intro c hc
      obtain ⟨j, hj, rfl⟩ := List.getElem_of_mem hc
      have hj' : j < d.cps.size := by rw [← Array.length_toList]; exact hj
      exact decide_eq_true (hall j (by omega) _ (by rw [← Array.getElem?_toList]; exact List.getElem?_eq_getElem hj))
    obtain ⟨n, h1, h2, _, h4⟩ := canon_read hw
    exact ⟨_, rfl, x, n, rfl, h1, by omega, yes n hw h1 h2⟩
end
end KJ

namespace KG
open PySem PySem.Spec PyProof.Rows L2
/-- a loop over reversed(list) -/
theorem for_revL {K : PySem.W.Frag} {a : Addr} {xs : List V} {g : TG} {tb : TS} {D : Ends} {σ : L2.St} {H : Hp} (Pv : Nat → L2.St → Hp → Prop) (h0 : Pv 0 σ H) (hq : ∀ i σ H, Pv i σ H → SqL K H a xs)
    (hs : ∀ (i : Nat) (x : V) (σ : L2.St) (H : Hp), i < xs.length → xs[xs.length - 1 - i]? = some x → Pv i σ H → g x σ H fun σ2 H2 => tb { D with nx := Pv (i + 1), ct := Pv (i + 1), bk := D.nx } σ2 H2) (hd : ∀ σ H, Pv xs.length σ H → D.nx σ H) :
    ∃ W : Nat → Nat → L2.St → Hp → Prop, (∃ m, W 0 m σ H) ∧ ∀ i m σ H, W i m σ H → ((Itv K a xs.length).stop i H ∧ D.nx σ H) ∨ ((Itv K a xs.length).go i H ∧ ∃ N : L2.St → Hp → Prop, (∀ σ' H', N σ' H' → ∃ m', m' < m ∧ W (i + 1) m' σ' H') ∧ ∀ v H', (Itv K a xs.length).yld i H v H' → g v σ H' fun σ2 H2 => tb { D with nx := N, ct := N, bk := D.nx } σ2 H2) := by
  refine ⟨fun i m σ H => m = xs.length - i ∧ i ≤ xs.length ∧ Pv i σ H, ⟨_, rfl, Nat.zero_le _, h0⟩, ?_⟩
  rintro i m σ H ⟨rfl, hi, p⟩
  have qx := hq i σ H p
  by_cases hlt : i < xs.length
  · refine .inr ⟨⟨hlt, xs, xs[xs.length - 1 - i], qx, List.getElem?_eq_getElem (by omega)⟩, Pv (i + 1), fun σ' H' p' => ⟨_, by omega, rfl, hlt, p'⟩, ?_⟩
    rintro v H' ⟨rfl, f1⟩
    exact hs i v σ _ hlt (f1 xs qx) p
  · obtain rfl : i = xs.length := by omega
    exact .inl ⟨Nat.le_refl _, hd σ H p⟩
end KG
namespace KJ
open PySem PySem.Spec PyProof.Rows L2 KG
abbrev s_bt : Stmt := inCls (topS 2) 0
abbrev N_bt : List Str := ["self", "place"]
theorem sc_bt : FnScope N_bt ["self", "place"] (defScope s_bt) := ⟨rfl, rfl, rfl, by decide +kernel, rfl, by decide +kernel, by decide +kernel⟩
abbrev sread_formula : Stmt := topS 8
abbrev Nread_formula : List Str := ["text", "words", "fault", "found", "word", "parts", "first"]
theorem scread_formula : FnScope Nread_formula ["text"] (defScope sread_formula) := ⟨rfl, rfl, rfl, by decide +kernel, rfl, by decide +kernel, by decide +kernel⟩
abbrev s_fault : Stmt := topS 9
abbrev N_fault : List Str := ["words", "missing", "place", "word", "parts"]
theorem sc_fault : FnScope N_fault ["words"] (defScope s_fault) := ⟨rfl, rfl, rfl, by decide +kernel, rfl, by decide +kernel, by decide +kernel⟩
section
variable {P : Program} {w : World} {K : PySem.W.Frag} {mg : Str → Option Value} {base : Heap} {C fI W aD : Addr}
theorem ok_bt {f : Addr} {fd : FuncData} {k : Nat} (F : Fun K "__init__" "BadText.__init__" s_bt f fd) : FnOk P w K mg base CX0 (k + 1) f fd ["self", "place"] (spInit K "place" C) := by
  refine F.ok sc_bt (fun vs H Q E h => ?_) (fun cdv A outer s H vs Q E hr h => ?_)
  · obtain ⟨a, v, rfl, _⟩ := h
    rfl
  obtain ⟨a, v, rfl, hT, hno, ha, fin⟩ := h
  refine ⟨_, pss_one (ps_ost (f := "place") (pv 0) (pv 1)), ?_⟩
  exact ⟨_, rfl, _, rfl, a, C, rfl, hT, hno, .inl ⟨ha, fun dx n ne => fin dx n ne⟩⟩
def sp_fault : Sp := fun vs H Q _ => ∃ (l : Addr) (ws : List Str), vs = [.ref l] ∧ H l = some (.lst (ws.map V.str)) ∧ ws.length ≤ 1000000 ∧ (∀ x ∈ ws, x.length ≤ 10000000) ∧ (faultF ws = none → ∀ H', Same H H' → Q .non H') ∧ (∀ k, faultF ws = some k → ∀ H', Same H H' → Q (.int (k : Int)) H')
theorem ok_fault {f : Addr} {fd : FuncData} {k : Nat} (F : Fun K "_fault" "_fault" s_fault f fd) (M : Names mg) (gP : mg "PARTS" = some (.ref aD)) (D : KDi K w aD partsD) (G : Cal P w K mg base k "integer_of" ["word"] sp_integer_of) : FnOk P w K mg base CX0 (k + 1) f fd ["words"] sp_fault := by
  refine F.ok sc_fault (fun vs H Q E h => ?_) (fun cdv A outer s H vs Q E hr h => ?_)
  · obtain ⟨l, ws, rfl, _⟩ := h
    rfl
  obtain ⟨l, ws, rfl, hl, hlen, hx, kN, kS⟩ := h
  refine ⟨_, (pss_cons (ps_set (i := 1) sc_fault.nd rfl (.inl rfl) pe_int)
    (pss_cons (ps_for PassesOwn.never rfl (pi_enum (by rfl) M.enumerate (pa_cons (pv 0) pa_nil)) (pg_tup rfl (pgs_cons (pg_name (i := 2) sc_fault.nd rfl (.inl rfl)) (pgs_cons (pg_name (i := 3) sc_fault.nd rfl (.inl rfl)) pgs_nil)))
      (pss_cons (ps_set (i := 4) sc_fault.nd rfl (.inl rfl) (pe_kget2 (pe_glob (v := .ref aD) (by rfl) gP rfl) (pv 3) pe_int ⟨by rfl, by rfl, by rfl, by rfl⟩))
      (pss_cons (ps_if (PW.pt (pw_or (pt_cmpR op_eq (pv 1) pe_int (nomark _)) (pw_or1 (PW.pt (pw_and (pt_cmpR op_eq (pv 4) pe_int (nomark _)) (pw_and1 (pt_cmpR op_isN (pe_call G.ok hr (by rfl) G.m G.kp G.b .nil pass0 (pa_cons (pv 3) pa_nil)) pe_non (nomark _))))))))
        (pss_one (ps_ret (pv 2)))
        pss_nil)
      (pss_one (ps_set (i := 1) sc_fault.nd rfl (.inl rfl) (pe_op op_sub (pe_op op_add (pv 1) (pv 4)) pe_int))))))
    (pss_cons (ps_if (pt_cmpR op_gt (pv 1) pe_int (nomark _))
      (pss_one (ps_ret (pe_callB call_len_seq (by rfl) M.len PySem.boot_len (pa_cons (pv 0) pa_nil))))
      pss_nil)
    (pss_one (ps_ret pe_non))))), ?_⟩
  have lws : (ws.map V.str).length = ws.length := List.length_map _
  refine ⟨_, rfl, l, _, rfl, SqL.of hl, for_enumL (xs := ws.map V.str) (fun i σ H' => ∃ (m : Nat) (y2 y3 y4 : Option V), σ = [some (.ref l), some (.int (m : Int)), y2, y3, y4] ∧ Same H H' ∧ i ≤ ws.length ∧ flt i m (ws.drop i) = faultF ws)
    ⟨1, none, none, none, rfl, fun _ _ e => e, Nat.zero_le _, rfl⟩ (fun i σ H' hP => by obtain ⟨_, _, _, _, _, sm, _⟩ := hP; exact SqL.of (sm _ _ hl)) (fun i v T' σ H' hv hP nT => ?_) (fun σ H' hP => ?_)⟩
  · obtain ⟨m, y2, y3, y4, rfl, sm, _, hf⟩ := hP
    have hi : i < ws.length := by
      have := (List.getElem?_eq_some_iff.mp hv).1
      omega
    have gx : ws[i]? = some ws[i] := List.getElem?_eq_getElem hi
    have mx := List.getElem_mem hi
    have ed : ws.drop i = ws[i] :: ws.drop (i + 1) := List.drop_eq_getElem_cons hi
    rw [ed] at hf
    generalize ws[i] = x at gx mx hf
    obtain rfl : v = .str x := by
      rw [List.getElem?_map, gx] at hv
      exact (Option.some.inj hv).symm
    have S3 := same_new nT (.tup [V.int (i : Nat), .str x])
    have sm3 := sm.trans S3
    have step : flt i m (x :: ws.drop (i + 1)) = if m = 0 ∨ (pn x = 0 ∧ isWhole x = false) then some i else flt (i + 1) (m + pn x - 1) (ws.drop (i + 1)) := rfl
    rw [step] at hf
    refine ⟨T', _, rfl, SqT.of upd_same, rfl, _, _, rfl, _, _, rfl, rfl, ?_⟩
    refine ⟨aD, partsD, rfl, D, _, rfl, x, rfl, ?_⟩
    rw [kd_parts x]
    have stop : (m = 0 ∨ (pn x = 0 ∧ isWhole x = false)) → ∀ H', Same H H' → Q (.int (i : Nat)) H' := fun h H' s => kS i (by rw [← hf, if_pos h]) H' s
    have go : ¬ (m = 0 ∨ (pn x = 0 ∧ isWhole x = false)) → ∃ m' : Nat, ((m : Int) + (pn x : Int) - 1) = (m' : Int) ∧ flt (i + 1) m' (ws.drop (i + 1)) = faultF ws := fun h => ⟨m + pn x - 1, by have : ¬ m = 0 := fun z => h (.inl z); omega, by rw [← hf, if_neg h]⟩
    refine ⟨_, rfl, rfl, _, rfl, ite2 (fun c1 => iteT ?_) (fun c1 => ⟨_, rfl, rfl, _, rfl, ite2 (fun c2 => ?_) (fun c2 => iteF ?_)⟩)⟩
    · have h1 : m = 0 := by have := V.int.inj (of_decide_eq_true c1); omega
      exact ⟨_, rfl, stop (.inl h1) _ sm3⟩
    · have h2 : pn x = 0 := by have := V.int.inj (of_decide_eq_true c2); omega
      refine ⟨_, rfl, x, rfl, hx x mx, fun n a1 a2 a3 => ⟨rfl, _, rfl, iteF' rfl ?_⟩, fun a1 => ⟨rfl, _, rfl, iteT' rfl ?_⟩⟩
      · obtain ⟨m', e1, e2⟩ := go (fun z => by
          rcases z with z | ⟨_, z⟩
          · exact c1 (decide_eq_true (by rw [z]; rfl))
          · rw [a1] at z; cases z)
        refine ⟨_, rfl, _, rfl, _, _, rfl, rfl, _, _, rfl, rfl, ?_⟩
        exact ⟨m', _, _, _, by rw [← e1]; rfl, sm3, hi, e2⟩
      · exact ⟨_, rfl, stop (.inr ⟨h2, a1⟩) _ sm3⟩
    · obtain ⟨m', e1, e2⟩ := go (fun z => by
        rcases z with z | ⟨z, _⟩
        · exact c1 (decide_eq_true (by rw [z]; rfl))
        · exact c2 (decide_eq_true (by rw [z]; rfl)))
      refine ⟨_, rfl, _, rfl, _, _, rfl, rfl, _, _, rfl, rfl, ?_⟩
      exact ⟨m', _, _, _, by rw [← e1]; rfl, sm3, hi, e2⟩
  · obtain ⟨m, y2, y3, y4, rfl, sm, _, hf⟩ := hP
    rw [lws, List.drop_length] at hf
    have hf : (if 0 < m then some ws.length else none) = faultF ws := hf
    refine ⟨_, rfl, _, _, rfl, rfl, _, rfl, ite2 (fun c => ?_) (fun c => ?_)⟩
    · have h : 0 < m := by have := of_decide_eq_true c; omega
      rw [if_pos h] at hf
      refine ⟨_, rfl, l, _, rfl, .inl (SqL.of (sm _ _ hl)), ?_⟩
      rw [lws]
      exact kS _ hf.symm _ sm
    · have h : ¬ 0 < m := by have := of_decide_eq_false (Bool.eq_false_iff.mpr c); omega
      rw [if_neg h] at hf
      exact kN hf.symm _ sm
def sp_read_formula (C : Addr) : Sp := fun vs H Q E => ∃ x : Str, vs = [.str x] ∧ x.length ≤ 900000 ∧
  (faultF (Txt.split x " ") = none → ∀ H' p f, Same H H' → FAt H' p f → f.ws = Txt.split x " " → f.ok → Q (.ref p) H') ∧
  (∀ k, faultF (Txt.split x " ") = some k → ∀ H' d, Same H H' → H' d = some (.xd [(("place" : Str), .int (k : Int))]) → E (.ref C) (some d) H')
theorem same_delT {H H1 : Hp} {a d : Addr} {C : Addr} {fs : List (Str × V)} {o1 o2 : HO} (s : Same H H1) (na : H1 a = none) (nd : (upd H1 a o1) d = none) (ne : d ≠ a) : Same H (upd (del (upd (upd (upd H1 a o1) d o2) a (exo a C (some d))) a) d (.xd fs)) := fun b o e => by
  have h1 := s b o e
  have ba : b ≠ a := ne_of_none h1 na
  have bd : b ≠ d := fun z => by
    rw [z, ← upd_ne (H := H1) (o := o1) ne] at h1
    rw [nd] at h1; cases h1
  rw [upd_ne bd, del_ne ba, upd_ne ba, upd_ne bd, upd_ne ba]; exact h1
theorem ok_read_formula {f : Addr} {fd fdi : FuncData} {k : Nat} (F : Fun K "read_formula" "read_formula" sread_formula f fd) (M : Names mg) (gP : mg "PARTS" = some (.ref aD)) (D : KDi K w aD partsD) (T : OwnE K mg "BadText" "place" C fI W) (Gi : FnOk P w K mg base CX0 (k + 1) fI fdi ["self", "place"] (spInit K "place" C)) (bi : Binds K fdi ["self", "place"] [])
    (G : Cal P w K mg base (k + 2) "_fault" ["words"] sp_fault) : FnOk P w K mg base (L2.CX P w) (k + 3) f fd ["text"] (sp_read_formula C) := by
  refine F.okX scread_formula (fun vs H Q E h => ?_) (fun cdv A outer s H vs Q E hr h => ?_)
  · obtain ⟨x, rfl, _⟩ := h
    rfl
  obtain ⟨x, rfl, hx, kN, kB⟩ := h
  refine ⟨_, (pss_cons (ps_set (i := 1) scread_formula.nd rfl (.inl rfl) (pe_split (pv 0) pe_str))
    (pss_cons (ps_set (i := 2) scread_formula.nd rfl (.inl rfl) (pe_call G.ok hr (by rfl) G.m G.kp G.b .nil pass0 (pa_cons (pv 1) pa_nil)))
    (pss_cons (ps_if (pt_cmpR op_notN (pv 2) pe_non (nomark _))
      (pss_one (ps_raise rfl (takes_of (E := E) rfl rfl rfl rfl) (pmk_oex T.oex T.iC T.tI Gi hr bi .nil pass0 (by rfl) T.gC (pa_cons (pv 2) pa_nil))))
      pss_nil)
    (pss_cons (ps_set (i := 3) scread_formula.nd rfl (.inl rfl) (pe_lst pa_nil))
    (pss_cons (ps_for PassesOwn.leaving rfl (pi_reversed (by rfl) M.reversed (pa_cons (pv 1) pa_nil)) (pg_name (i := 4) scread_formula.nd rfl (.inl rfl))
      (pss_cons (ps_set (i := 5) scread_formula.nd rfl (.inl rfl) (pe_kget2 (pe_glob (v := .ref aD) (by rfl) gP rfl) (pv 4) pe_int ⟨by rfl, by rfl, by rfl, by rfl⟩))
      (pss_one (ps_if (pt_cmpR op_eq (pv 5) pe_int (nomark _))
        (pss_one (ps_expr (pe_bm PySem.F.plainAttrs_list PySem.F.slot_list_append PySem.F.type_list_append mt_append (pv 3) (pa_cons (pe_tup (pa_cons pe_str (pa_cons (pe_callTy call_int_str (by rfl) M.int (by decide +kernel) (pa_cons (pv 4) pa_nil)) pa_nil))) pa_nil))))
        (pss_one (ps_if (pt_cmpR op_eq (pv 5) pe_int (nomark _))
          (pss_one (ps_expr (pe_bm PySem.F.plainAttrs_list PySem.F.slot_list_append PySem.F.type_list_append mt_append (pv 3) (pa_cons (pe_tup (pa_cons (pv 4) (pa_cons (pe_bm0 PySem.F.plainAttrs_list PySem.F.slot_list_pop PySem.F.type_list_pop mt_pop (pv 3)) pa_nil))) pa_nil))))
          (pss_cons (ps_set (i := 6) scread_formula.nd rfl (.inl rfl) (pe_bm0 PySem.F.plainAttrs_list PySem.F.slot_list_pop PySem.F.type_list_pop mt_pop (pv 3)))
          (pss_one (ps_expr (pe_bm PySem.F.plainAttrs_list PySem.F.slot_list_append PySem.F.type_list_append mt_append (pv 3) (pa_cons (pe_tup (pa_cons (pv 4) (pa_cons (pv 6) (pa_cons (pe_bm0 PySem.F.plainAttrs_list PySem.F.slot_list_pop PySem.F.type_list_pop mt_pop (pv 3)) pa_nil)))) pa_nil)))))))))))
    (pss_one (ps_ret (pe_ix ix_list (pv 3) pe_int (fun _ _ => rfl))))))))), ?_⟩
  have hln := sep_blank.len x
  have hcn := sep_blank.count x
  refine ⟨_, rfl, ⟨_, rfl⟩, x, " ", rfl, rfl, (by decide +kernel), (by rw [sizeLine_eq]; omega), fun p np => ?_⟩
  generalize Txt.split x " " = ws at kN kB hln hcn
  have S1 := same_new np (.lst (ws.map V.str))
  have hp : (upd H p (.lst (ws.map V.str))) p = some (.lst (ws.map V.str)) := upd_same
  have lws : (ws.map V.str).length = ws.length := List.length_map _
  generalize (upd H p (.lst (ws.map V.str))) = H1 at S1 hp
  refine ⟨_, rfl, p, ws, rfl, hp, by omega, fun z hz => Nat.le_trans (hln z hz) (by omega), fun e H2 s2 => ?_, fun k e H2 s2 => ?_⟩
  case refine_2 =>
    refine ⟨_, rfl, rfl, _, rfl, iteT' rfl ?_⟩
    refine ⟨_, rfl, (by show 1 ≤ 1000; decide), fun a na => ⟨a, .int (k : Nat), rfl, T.oex, T.noF, upd_same, fun dx ndx ne => ⟨rfl, dx, [(("place" : Str), .int (k : Nat))], upd_same, by rw [upd_ne ne, upd_same], by rw [← upd_ne (H := H2) ne]; exact ndx, ?_⟩⟩⟩
    exact kB k e _ dx (same_delT (S1.trans s2) na ndx ne) upd_same
  obtain ⟨f0, fj⟩ := flt_none ws 0 1 e
  refine ⟨_, rfl, rfl, _, rfl, iteF' rfl ?_⟩
  have hp2 := s2 _ _ hp
  have s12 := S1.trans s2
  refine ⟨Nat.zero_le _, fun q nq => ?_⟩
  have S3 := same_new nq (.lst [])
  have pq : p ≠ q := fun z => by rw [← z, hp2] at nq; cases nq
  have qH : H q = none := s12.free nq
  refine ⟨_, rfl, p, ws.map V.str, rfl, SqL.of (S3 _ _ hp2), for_revL (xs := ws.map V.str) (fun i σ H' => ∃ (us : List V) (fs : List Fm) (y4 y5 y6 : Option V), σ = [some (.str x), some (.ref p), some .non, some (.ref q), y4, y5, y6] ∧ Same H H' ∧ H' p = some (.lst (ws.map V.str)) ∧ H' q = some (.lst us) ∧ FsAt H' us fs ∧ i ≤ ws.length ∧ backW fs = ws.drop (ws.length - i) ∧ fs.length = mis 1 ws (ws.length - i) ∧ ∀ f ∈ fs, f.ok)
    ⟨[], [], none, none, none, rfl, s12.trans S3, S3 _ _ hp2, upd_same, .nil, Nat.zero_le _, by rw [Nat.sub_zero, List.drop_length]; rfl, by rw [Nat.sub_zero, f0]; rfl, fun f h => by cases h⟩ (fun i σ H' hP => by obtain ⟨_, _, _, _, _, _, _, h, _⟩ := hP; exact SqL.of h) (fun i v σ H' hi hv hP => ?_) (fun σ H' hP => ?_)⟩
  · obtain ⟨us, fs, y4, y5, y6, rfl, sm, hp', hq', hfs, _, hb, hl, hok⟩ := hP
    rw [lws] at hi hv
    obtain ⟨j, ej⟩ : ∃ j, j = ws.length - 1 - i := ⟨_, rfl⟩
    have hj : j < ws.length := by omega
    have e1 : ws.length - i = j + 1 := by omega
    have e2 : ws.length - (i + 1) = j := by omega
    rw [← ej] at hv
    rw [e1] at hb hl
    obtain ⟨g1, g2, g3⟩ := fj j hj
    have gx : ws[j]? = some ws[j] := List.getElem?_eq_getElem hj
    have mx := List.getElem_mem hj
    have ed : ws.drop j = ws[j] :: ws.drop (j + 1) := List.drop_eq_getElem_cons hj
    generalize ws[j] = wd at g2 g3 gx mx ed
    obtain rfl : v = .str wd := by
      rw [List.getElem?_map, gx] at hv
      exact (Option.some.inj hv).symm
    have lus := hfs.len
    have hcnt : mis 1 ws (j + 1) ≤ 2000000 := by
      have bound : ∀ k, k ≤ ws.length → mis 1 ws k ≤ k + 1 := by
        intro k
        induction k with
        | zero => intro _; cases ws <;> exact Nat.le_refl _
        | succ k ih =>
          intro hk
          obtain ⟨_, _, g3'⟩ := fj k hk
          have := ih (by omega)
          have := pn_le ws[k]
          omega
      have := bound (j + 1) hj
      omega
    have done : ∀ (H5 : Hp) (us5 : List V) (fs5 : List Fm) (y5 y6 : Option V), Same H' (upd H5 q (.lst us5)) → True := fun _ _ _ _ _ _ => trivial
    refine ⟨aD, partsD, rfl, D, _, rfl, _, rfl, ?_⟩
    rw [kd_parts wd]
    refine ⟨_, rfl, rfl, _, rfl, ite2 (fun c1 => ?_) (fun c1 => ⟨_, rfl, rfl, _, rfl, ite2 (fun c2 => ?_) (fun c2 => ?_)⟩)⟩
    · have h0 : pn wd = 0 := by have := V.int.inj (of_decide_eq_true c1); omega
      obtain ⟨n, h1, h2, h3, h4⟩ := canon_read (g2 h0)
      refine ⟨_, rfl, .inl ⟨rfl, _, .inl (.inl hq')⟩, _, rfl, wd, n, rfl, h1, by omega, (by show 2 ≤ sizeLine; decide), fun t nt => ?_⟩
      have S5 := same_new nt (.tup [V.str "number", .int n])
      have hq5 := S5 _ _ hq'
      refine ⟨q, _, _, rfl, rfl, hq5, by rw [sizeLine_eq]; omega, us ++ [.ref t], fs ++ [.num n], _, _, _, rfl, same_put (sm.trans S5) qH, by rw [upd_ne pq]; exact S5 _ _ hp', upd_same, ((hfs.same S5).snoc (.num upd_same)).put hq5, by omega, ?_, ?_, ?_⟩
      · rw [backW_snoc, e2, ed, hb]
        show numS n :: _ = _
        rw [h2]; rfl
      · rw [List.length_append, List.length_singleton, e2, hl]; omega
      · intro z hz
        rcases List.mem_append.mp hz with h | h
        · exact hok z h
        · rw [List.mem_singleton.mp h]; exact h3
    · have h1 : pn wd = 1 := by have := V.int.inj (of_decide_eq_true c2); omega
      have hne : fs ≠ [] := fun z => by rw [z, List.length_nil] at hl; omega
      obtain ⟨us', t, fs', g, rfl, rfl, hg, hfs'⟩ := hfs.last hne
      refine ⟨_, rfl, .inl ⟨rfl, _, .inl (.inl hq')⟩, _, rfl, _, rfl, .inl ⟨rfl, _, .inl (.inl hq')⟩, q, _, .ref t, rfl, rfl, hq', (by rw [List.length_append, List.length_singleton, Nat.add_sub_cancel, List.getElem?_append_right (Nat.le_refl _), Nat.sub_self]; rfl), (by show 2 ≤ sizeLine; decide), fun t2 nt2 => ?_⟩
      rw [List.dropLast_concat] at nt2 ⊢
      have Sp := same_put (H := H) (D := q) (o := .lst us') sm qH
      have S5 := same_new nt2 (.tup [V.str wd, .ref t])
      have hq5 := S5 _ _ (show (upd H' q (.lst us')) q = some (.lst us') from upd_same)
      refine ⟨q, _, _, rfl, rfl, hq5, by rw [sizeLine_eq, hfs'.len]; rw [List.length_append, List.length_singleton] at hl; omega, us' ++ [.ref t2], fs' ++ [.one wd g], _, _, _, rfl, same_put (Sp.trans S5) qH, ?_, upd_same, (((hfs'.put hq').same S5).snoc (.one upd_same ((hg.put hq').same S5))).put hq5, by omega, ?_, ?_, ?_⟩
      · rw [upd_ne pq]
        exact S5 _ _ (by rw [upd_ne pq]; exact hp')
      · rw [backW_snoc] at hb ⊢
        rw [e2, ed, ← hb]; rfl
      · rw [List.length_append, List.length_singleton] at hl ⊢
        rw [e2]; omega
      · intro z hz
        rcases List.mem_append.mp hz with h | h
        · exact hok z (List.mem_append_left _ h)
        · rw [List.mem_singleton.mp h]; exact ⟨pn_one h1, hok g (List.mem_append_right _ (List.mem_singleton.mpr rfl))⟩
    · have h2 : pn wd = 2 := by
        have := pn_le wd
        have a1 : pn wd ≠ 0 := fun z => c1 (decide_eq_true (by rw [z]; rfl))
        have a2 : pn wd ≠ 1 := fun z => c2 (decide_eq_true (by rw [z]; rfl))
        omega
      have hne : fs ≠ [] := fun z => by rw [z, List.length_nil] at hl; omega
      obtain ⟨us1, t, fs1, g, rfl, rfl, hg, hfs1⟩ := hfs.last hne
      have hne1 : fs1 ≠ [] := fun z => by rw [z, List.nil_append, List.length_singleton] at hl; omega
      obtain ⟨us', t', fs', g', rfl, rfl, hg', hfs'⟩ := hfs1.last hne1
      refine ⟨_, rfl, .inl ⟨rfl, _, .inl (.inl hq')⟩, q, _, .ref t, rfl, rfl, hq', (by rw [List.length_append, List.length_singleton, Nat.add_sub_cancel, List.getElem?_append_right (Nat.le_refl _), Nat.sub_self]; rfl), ?_⟩
      rw [List.dropLast_concat]
      have hq1 : (upd H' q (.lst (us' ++ [.ref t']))) q = some (.lst (us' ++ [.ref t'])) := upd_same
      have Sp1 := same_put (H := H) (D := q) (o := .lst (us' ++ [.ref t'])) sm qH
      have A1 := hg.put (ys := us' ++ [.ref t']) hq'
      have A2 := hg'.put (ys := us' ++ [.ref t']) hq'
      have A3 := hfs'.put (ys := us' ++ [.ref t']) hq'
      have hp1 : (upd H' q (.lst (us' ++ [.ref t']))) p = some (.lst (ws.map V.str)) := by rw [upd_ne pq]; exact hp'
      generalize (upd H' q (.lst (us' ++ [.ref t']))) = H3 at hq1 Sp1 A1 A2 A3 hp1
      refine ⟨_, rfl, .inl ⟨rfl, _, .inl (.inl hq1)⟩, _, rfl, _, rfl, _, rfl, .inl ⟨rfl, _, .inl (.inl hq1)⟩, q, _, .ref t', rfl, rfl, hq1, (by rw [List.length_append, List.length_singleton, Nat.add_sub_cancel, List.getElem?_append_right (Nat.le_refl _), Nat.sub_self]; rfl), (by show 3 ≤ sizeLine; decide), fun t2 nt2 => ?_⟩
      rw [List.dropLast_concat] at nt2 ⊢
      have Sp := same_put (H := H) (D := q) (o := .lst us') Sp1 qH
      have S5 := same_new nt2 (.tup [V.str wd, .ref t, .ref t'])
      have hq5 := S5 _ _ (show (upd H3 q (.lst us')) q = some (.lst us') from upd_same)
      refine ⟨q, _, _, rfl, rfl, hq5, by rw [sizeLine_eq, hfs'.len]; rw [List.length_append, List.length_singleton, List.length_append, List.length_singleton] at hl; omega, us' ++ [.ref t2], fs' ++ [.two wd g g'], _, _, _, rfl, same_put (Sp.trans S5) qH, ?_, upd_same, (((A3.put hq1).same S5).snoc (.two upd_same ((A1.put hq1).same S5) ((A2.put hq1).same S5))).put hq5, by omega, ?_, ?_, ?_⟩
      · rw [upd_ne pq]
        exact S5 _ _ (by rw [upd_ne pq]; exact hp1)
      · rw [backW_snoc, backW_snoc] at hb
        rw [backW_snoc, e2, ed, ← hb]
        show wd :: (g.ws ++ g'.ws) ++ backW fs' = _
        rw [List.cons_append, List.append_assoc]
      · rw [List.length_append, List.length_singleton, List.length_append, List.length_singleton] at hl
        rw [List.length_append, List.length_singleton, e2]; omega
      · intro z hz
        rcases List.mem_append.mp hz with h | h
        · exact hok z (List.mem_append_left _ (List.mem_append_left _ h))
        · rw [List.mem_singleton.mp h]; exact ⟨pn_two h2, hok g (List.mem_append_right _ (List.mem_singleton.mpr rfl)), hok g' (List.mem_append_left _ (List.mem_append_right _ (List.mem_singleton.mpr rfl)))⟩
  · obtain ⟨us, fs, y4, y5, y6, rfl, sm, hp', hq', hfs, _, hb, hl, hok⟩ := hP
    rw [lws, Nat.sub_self] at hb hl
    have hl : fs.length = 1 := by rw [hl]; cases ws <;> rfl
    cases hfs with
    | nil => cases hl
    | @cons t g us' fs' hg hr' =>
      cases hr' with
      | cons _ _ => cases hl
      | nil =>
        refine ⟨_, rfl, q, _, _, _, rfl, rfl, SqL.of hq', atI_nat (j := 0) rfl, ?_⟩
        refine kN e _ t g sm hg ?_ (hok g List.mem_cons_self)
        have hb : g.ws ++ [] = ws.drop 0 := hb
        rw [List.append_nil] at hb
        exact hb
end
end KJ

namespace KG
open PySem PySem.Spec PyProof.Rows L2
theorem FAt.inner {H : Hp} {t : Addr} {f : Fm} (h : FAt H t f) (o : f.ok) : (∃ n, f = .num n ∧ H t = some (.tup [.str "number", .int n])) ∨
    ∃ w us fs, H t = some (.tup (.str w :: us)) ∧ FsAt H us fs ∧ f.ws = w :: fs.flatMap Fm.ws ∧ (∀ g ∈ fs, g.ht < f.ht ∧ g.ok) ∧ us.length ≤ 2 ∧ 1 ≤ us.length ∧ w ≠ "number" := by
  have b1 : ∀ z ∈ ones, z ≠ "number" := by decide +kernel
  have b2 : ∀ z ∈ twos, z ≠ "number" := by decide +kernel
  cases h with
  | num e => exact .inl ⟨_, rfl, e⟩
  | @one t a w f e h1 =>
    refine .inr ⟨w, [.ref a], [f], e, .cons h1 .nil, ?_, fun g hg => ?_, (by show 1 ≤ 2; decide), (by show 1 ≤ 1; decide), b1 w o.1⟩
    · show w :: f.ws = w :: (f.ws ++ [])
      rw [List.append_nil]
    · rw [List.mem_singleton.mp hg]
      exact ⟨Nat.lt_succ_self _, o.2⟩
  | @two t a b w f g e h1 h2 =>
    refine .inr ⟨w, [.ref a, .ref b], [f, g], e, .cons h1 (.cons h2 .nil), ?_, fun g' hg => ?_, (by show 2 ≤ 2; decide), (by show 1 ≤ 2; decide), b2 w o.1⟩
    · show w :: (f.ws ++ g.ws) = w :: (f.ws ++ (g.ws ++ []))
      rw [List.append_nil]
    · rcases List.mem_cons.mp hg with rfl | hg
      · exact ⟨by show g'.ht < max g'.ht g.ht + 1; omega, o.2.1⟩
      · rw [List.mem_singleton.mp hg]
        exact ⟨by show g.ht < max f.ht g.ht + 1; omega, o.2.2⟩
theorem FsAt.get {H : Hp} : ∀ {us : List V} {fs : List Fm} {i : Nat} {x : V}, FsAt H us fs → us[i]? = some x → ∃ t f, x = .ref t ∧ fs[i]? = some f ∧ FAt H t f
  | _, _, i, x, .nil, h => by simp at h
  | _, _, 0, x, .cons (t := t) (f := f) e _, h => ⟨t, f, (Option.some.inj h).symm, rfl, e⟩
  | _, _, i + 1, x, .cons _ r, h => FsAt.get (i := i) r h
end KG
namespace KJ
open PySem PySem.Spec PyProof.Rows L2 KG
abbrev s_law_formula : Stmt := topS 13
abbrev N_law_formula : List Str := ["state", "size", "most", "kind", "first", "word"]
theorem sc_law_formula : FnScope N_law_formula ["state", "size", "most"] (defScope s_law_formula) := ⟨rfl, rfl, rfl, by decide +kernel, rfl, by decide +kernel, by decide +kernel⟩
abbrev s_law_words : Stmt := topS 14
abbrev N_law_words : List Str := ["formula", "words", "inner"]
theorem sc_law_words : FnScope N_law_words ["formula"] (defScope s_law_words) := ⟨rfl, rfl, rfl, by decide +kernel, rfl, by decide +kernel, by decide +kernel⟩
section
variable {P : Program} {w : World} {K : PySem.W.Frag} {mg : Str → Option Value} {base : Heap}
def sp_law_formula (K : PySem.W.Frag) (d : Nat) : Sp := fun vs H Q _ => ∃ (p a : Addr) (ns : List Int) (sz : Nat) (m : Int), vs = [.ref p, .int (sz : Int), .int m] ∧ StX H p a ns ∧ SqO K H p a (ns.map V.int) ∧ sz < d ∧ sz ≤ 1000 ∧ 0 ≤ m ∧ m < 10 ^ 30 ∧
  ∀ H' t f, StX H' p a ns → But p H H' → FAt H' t f → f.ok → f.ws.length ≤ max 1 sz → Q (.ref t) H'
theorem ok_law_formula {f : Addr} {fd : FuncData} {k : Nat} (F : Fun K "_law_formula" "_law_formula" s_law_formula f fd) (M : Names mg) (G_law_take : Cal P w K mg base k "_law_take" ["state", "many"] (sp_law_take K)) (bF : Binds K fd ["state", "size", "most"] []) (mF : mg "_law_formula" = some (.ref f)) (kF : PySem.W.keepIn K (.ref f) = true) :
    ∀ d, FnOk P w K mg base CX0 (k + d) f fd ["state", "size", "most"] (sp_law_formula K d)
  | 0 => ⟨fun vs H Q E ⟨_, _, _, _, _, _, _, _, h, _⟩ => absurd h (Nat.not_lt_zero _), fun _ _ _ _ _ _ _ _ _ _ _ _ _ ⟨_, _, _, _, _, _, _, _, h, _⟩ => absurd h (Nat.not_lt_zero _)⟩
  | d + 1 => by
    have G_law_formula : Cal P w K mg base (k + d) "_law_formula" ["state", "size", "most"] (sp_law_formula K d) := ⟨f, fd, ok_law_formula F M G_law_take bF mF kF d, bF, mF, kF⟩
    refine F.ok sc_law_formula (fun vs H Q E h => ?_) (fun cdv A outer s H vs Q E hr0 h => ?_)
    · obtain ⟨p, a, ns, sz, m, rfl, _⟩ := h
      rfl
    obtain ⟨p, a, ns, sz, m, rfl, hX, hS, hsz, hsz2, m0, m1, fin⟩ := h
    have hr : Room k _ := hr0.mono (Nat.le_add_right k d)
    refine ⟨_, (pss_cons (ps_if (pt_cmpR op_lt (pv 1) pe_int (nomark _))
      (pss_one (ps_ret (pe_tup (pa_cons pe_str (pa_cons (pe_op op_sub (pe_call G_law_take.ok hr (by rfl) G_law_take.m G_law_take.kp G_law_take.b .nil pass0 (pa_cons (pv 0) (pa_cons (pe_op op_add (pe_op op_mul pe_int (pv 2)) pe_int) pa_nil))) (pv 2)) pa_nil)))))
      pss_nil)
    (pss_cons (ps_set (i := 3) sc_law_formula.nd rfl (.inl rfl) (pe_call G_law_take.ok hr (by rfl) G_law_take.m G_law_take.kp G_law_take.b .nil pass0 (pa_cons (pv 0) (pa_cons pe_int pa_nil))))
    (pss_cons (ps_if (pt_cmpR op_lt (pv 3) pe_int (nomark _))
      (pss_one (ps_ret (pe_tup (pa_cons pe_str (pa_cons (pe_call G_law_formula.ok hr0 (by rfl) G_law_formula.m G_law_formula.kp G_law_formula.b .nil pass0 (pa_cons (pv 0) (pa_cons (pe_op op_sub (pv 1) pe_int) (pa_cons (pv 2) pa_nil)))) pa_nil)))))
      pss_nil)
    (pss_cons (ps_if (pt_cmpR op_lt (pv 3) pe_int (nomark _))
      (pss_one (ps_ret (pe_tup (pa_cons pe_str (pa_cons (pe_call G_law_formula.ok hr0 (by rfl) G_law_formula.m G_law_formula.kp G_law_formula.b .nil pass0 (pa_cons (pv 0) (pa_cons (pe_op op_sub (pv 1) pe_int) (pa_cons (pv 2) pa_nil)))) pa_nil)))))
      pss_nil)
    (pss_cons (ps_if (pt_cmpR op_lt (pv 1) pe_int (nomark _))
      (pss_one (ps_ret (pe_tup (pa_cons pe_str (pa_cons (pe_op op_sub (pe_call G_law_take.ok hr (by rfl) G_law_take.m G_law_take.kp G_law_take.b .nil pass0 (pa_cons (pv 0) (pa_cons (pe_op op_add (pe_op op_mul pe_int (pv 2)) pe_int) pa_nil))) (pv 2)) pa_nil)))))
      pss_nil)
    (pss_cons (ps_set (i := 4) sc_law_formula.nd rfl (.inl rfl) (pe_op op_add pe_int (pe_call G_law_take.ok hr (by rfl) G_law_take.m G_law_take.kp G_law_take.b .nil pass0 (pa_cons (pv 0) (pa_cons (pe_op op_sub (pv 1) pe_int) pa_nil)))))
    (pss_cons (ps_set (i := 5) sc_law_formula.nd rfl (.inl rfl) (pe_ix ix_list (pe_lst (pa_cons pe_str (pa_cons pe_str (pa_cons pe_str (pa_cons pe_str pa_nil))))) (pe_op op_sub (pe_op op_fdiv (pv 3) pe_int) pe_int) (fun _ _ => rfl)))
    (pss_one (ps_ret (pe_tup (pa_cons (pv 5) (pa_cons (pe_call G_law_formula.ok hr0 (by rfl) G_law_formula.m G_law_formula.kp G_law_formula.b .nil pass0 (pa_cons (pv 0) (pa_cons (pv 4) (pa_cons (pv 2) pa_nil)))) (pa_cons (pe_call G_law_formula.ok hr0 (by rfl) G_law_formula.m G_law_formula.kp G_law_formula.b .nil pass0 (pa_cons (pv 0) (pa_cons (pe_op op_sub (pe_op op_sub (pv 1) pe_int) (pv 4)) (pa_cons (pv 2) pa_nil)))) pa_nil))))))))))))), ?_⟩
    have lgN : ∀ n : Int, n.natAbs < 2 ^ 110 → n.natAbs.log2 < 9000 := fun n h => log_small (n := 110) h (by decide) (by decide)
    have mb : m < 1000000000000000000000000000000 := m1
    have e30 : (10 ^ 30 : Nat) = 1000000000000000000000000000000 := by decide +kernel
    -- a number
    refine ⟨_, rfl, _, _, rfl, rfl, _, rfl, ite2 (fun c0 => ?_) (fun c0 => ?_)⟩
    · refine ⟨_, rfl, _, rfl, _, _, rfl, rfl, .inl ⟨by decide, by decide⟩, _, _, rfl, rfl, p, a, ns, _, rfl, hX, hS, by omega, lgN _ (by omega), fun d1 H1 d10 d11 X1 b1 => ?_⟩
      refine ⟨_, rfl, _, _, rfl, rfl, (by show 2 ≤ sizeLine; decide), fun t nt => ?_⟩
      have S1 := same_new nt (.tup [V.str "number", .int (d1 - m)])
      exact fin _ t (.num (d1 - m)) (X1.same S1) (b1.trans (.of S1)) (.num upd_same) (by show (d1 - m).natAbs < 10 ^ 30; rw [e30]; omega) (by show 1 ≤ _; omega)
    have hs2 : 2 ≤ sz := by have := of_decide_eq_false (Bool.eq_false_iff.mpr c0); omega
    refine ⟨_, rfl, p, a, ns, _, rfl, hX, hS, by decide, lgN _ (by decide), fun d1 H1 d10 d11 X1 b1 => ?_⟩
    have hS1 := hS.but b1
    have e1 : (sz : Int) - 1 = ((sz - 1 : Nat) : Int) := by omega
    refine ⟨_, rfl, _, _, rfl, rfl, _, rfl, ite2 (fun c1 => ?_) (fun c1 => ⟨_, rfl, _, _, rfl, rfl, _, rfl, ite2 (fun c2 => ?_) (fun c2 => ?_)⟩)⟩
    · refine ⟨_, rfl, _, rfl, _, _, rfl, rfl, _, rfl, p, a, ns, sz - 1, m, by rw [← e1]; rfl, X1, hS1, by omega, by omega, m0, m1, fun H2 t f X2 b2 hf ho hl => ⟨(by show 2 ≤ sizeLine; decide), fun t2 nt2 => ?_⟩⟩
      have S2 := same_new nt2 (.tup [V.str "neg", .ref t])
      exact fin _ t2 (.one "neg" f) (X2.same S2) ((b1.trans b2).trans (.of S2)) (.one upd_same (hf.same S2)) ⟨by decide +kernel, ho⟩ (by show f.ws.length + 1 ≤ _; omega)
    · refine ⟨_, rfl, _, rfl, _, _, rfl, rfl, _, rfl, p, a, ns, sz - 1, m, by rw [← e1]; rfl, X1, hS1, by omega, by omega, m0, m1, fun H2 t f X2 b2 hf ho hl => ⟨(by show 2 ≤ sizeLine; decide), fun t2 nt2 => ?_⟩⟩
      have S2 := same_new nt2 (.tup [V.str "root", .ref t])
      exact fin _ t2 (.one "root" f) (X2.same S2) ((b1.trans b2).trans (.of S2)) (.one upd_same (hf.same S2)) ⟨by decide +kernel, ho⟩ (by show f.ws.length + 1 ≤ _; omega)
    have hk : 4 ≤ d1 := by have := of_decide_eq_false (Bool.eq_false_iff.mpr c2); omega
    refine ⟨_, rfl, _, _, rfl, rfl, _, rfl, ite2 (fun c3 => ?_) (fun c3 => ?_)⟩
    · refine ⟨_, rfl, _, rfl, _, _, rfl, rfl, .inl ⟨by decide, by decide⟩, _, _, rfl, rfl, p, a, ns, _, rfl, X1, hS1, by omega, lgN _ (by omega), fun d2 H2 d20 d21 X2 b2 => ?_⟩
      refine ⟨_, rfl, _, _, rfl, rfl, (by show 2 ≤ sizeLine; decide), fun t nt => ?_⟩
      have S1 := same_new nt (.tup [V.str "number", .int (d2 - m)])
      exact fin _ t (.num (d2 - m)) (X2.same S1) ((b1.trans b2).trans (.of S1)) (.num upd_same) (by show (d2 - m).natAbs < 10 ^ 30; rw [e30]; omega) (by show 1 ≤ _; omega)
    have hs3 : 3 ≤ sz := by have := of_decide_eq_false (Bool.eq_false_iff.mpr c3); omega
    refine ⟨_, rfl, _, rfl, _, _, rfl, rfl, p, a, ns, _, rfl, X1, hS1, by omega, lgN _ (by omega), fun d2 H2 d20 d21 X2 b2 => ⟨_, _, rfl, rfl, ?_⟩⟩
    have hS2 := hS1.but b2
    obtain ⟨n1, en1⟩ : ∃ n1 : Nat, 1 + d2 = (n1 : Int) := ⟨(1 + d2).toNat, by omega⟩
    rw [show (fun i j => V.int (i + j)) (1 : Int) d2 = V.int (n1 : Int) from congrArg V.int en1]
    have h1 : 1 ≤ n1 := by omega
    have h2 : n1 ≤ sz - 2 := by omega
    -- word
    refine ⟨(by show 4 ≤ sizeLine; decide), fun tw ntw => ?_⟩
    have Sw := same_new ntw (.lst [V.str "add", .str "sub", .str "mul", .str "div"])
    have kd : d1 / 2 - 2 = 0 ∨ d1 / 2 - 2 = 1 ∨ d1 / 2 - 2 = 2 ∨ d1 / 2 - 2 = 3 := by omega
    obtain ⟨wd, hwd, htw⟩ : ∃ wd : Str, atI [V.str "add", .str "sub", .str "mul", .str "div"] (d1 / 2 - 2) = some (.str wd) ∧ wd ∈ twos := by
      rcases kd with e | e | e | e <;> rw [e]
      · exact ⟨"add", rfl, by decide +kernel⟩
      · exact ⟨"sub", rfl, by decide +kernel⟩
      · exact ⟨"mul", rfl, by decide +kernel⟩
      · exact ⟨"div", rfl, by decide +kernel⟩
    refine ⟨_, rfl, _, _, rfl, rfl, ⟨by decide, by decide⟩, _, _, rfl, rfl, tw, _, _, _, rfl, rfl, SqL.of upd_same, hwd, ?_⟩
    have X2w := X2.same Sw
    have hS2w := hS2.but (.of Sw)
    refine ⟨_, rfl, _, rfl, _, rfl, _, rfl, p, a, ns, n1, m, rfl, X2w, hS2w, by omega, by omega, m0, m1, fun H3 t1 f1 X3 b3 hf1 ho1 hl1 => ?_⟩
    have e3 : (sz : Int) - 1 - (n1 : Int) = ((sz - 1 - n1 : Nat) : Int) := by omega
    refine ⟨_, rfl, _, rfl, _, _, rfl, rfl, _, rfl, _, _, rfl, rfl, _, rfl, p, a, ns, sz - 1 - n1, m, by rw [← e3]; rfl, X3, hS2w.but b3, by omega, by omega, m0, m1, fun H4 t2 f2 X4 b4 hf2 ho2 hl2 => ⟨(by show 3 ≤ sizeLine; decide), fun t3 nt3 => ?_⟩⟩
    have S3 := same_new nt3 (.tup [V.str wd, .ref t1, .ref t2])
    exact fin _ t3 (.two wd f1 f2) (X4.same S3) ((((b1.trans b2).trans (.of Sw)).trans (b3.trans b4)).trans (.of S3)) (.two upd_same ((hf1.but X3 b4).same S3) (hf2.same S3)) ⟨htw, ho1, ho2⟩ (by show (f1.ws ++ f2.ws).length + 1 ≤ _; rw [List.length_append]; omega)
def sp_law_words (K : PySem.W.Frag) (d : Nat) : Sp := fun vs H Q _ => ∃ (t : Addr) (f : Fm), vs = [.ref t] ∧ FAt H t f ∧ f.ht < d ∧ f.ok ∧ f.ws.length ≤ 1000000 ∧ ∀ H' q, Same H H' → H q = none → H' q = some (.lst (f.ws.map V.str)) → Q (.ref q) H'
theorem ok_law_words {f : Addr} {fd : FuncData} {k : Nat} (F : Fun K "_law_words" "_law_words" s_law_words f fd) (M : Names mg) (bF : Binds K fd ["formula"] []) (mF : mg "_law_words" = some (.ref f)) (kF : PySem.W.keepIn K (.ref f) = true) :
    ∀ d, FnOk P w K mg base CX0 (k + d) f fd ["formula"] (sp_law_words K d)
  | 0 => ⟨fun vs H Q E ⟨_, _, _, _, h, _⟩ => absurd h (Nat.not_lt_zero _), fun _ _ _ _ _ _ _ _ _ _ _ _ _ ⟨_, _, _, _, h, _⟩ => absurd h (Nat.not_lt_zero _)⟩
  | d + 1 => by
    have G_law_words : Cal P w K mg base (k + d) "_law_words" ["formula"] (sp_law_words K d) := ⟨f, fd, ok_law_words F M bF mF kF d, bF, mF, kF⟩
    refine F.ok sc_law_words (fun vs H Q E h => ?_) (fun cdv A outer s H vs Q E hr h => ?_)
    · obtain ⟨t, g, rfl, _⟩ := h
      rfl
    obtain ⟨t, g, rfl, hg, hd, ho, hlen, fin⟩ := h
    refine ⟨_, (pss_cons (ps_if (pt_cmpR op_eq (pe_ix ix_tup (pv 0) pe_int (fun _ _ => rfl)) pe_str (nomark _))
      (pss_one (ps_ret (pe_lst (pa_cons (pe_callTy call_str_int (by rfl) M.str (by decide +kernel) (pa_cons (pe_ix ix_tup (pv 0) pe_int (fun _ _ => rfl)) pa_nil)) pa_nil))))
      pss_nil)
    (pss_cons (ps_set (i := 1) sc_law_words.nd rfl (.inl rfl) (pe_lst (pa_cons (pe_ix ix_tup (pv 0) pe_int (fun _ _ => rfl)) pa_nil)))
    (pss_cons (ps_for PassesOwn.never rfl (pi_tup (pe_slice sl_tup (pv 0) (po_some pe_int) po_none)) (pg_name (i := 2) sc_law_words.nd rfl (.inl rfl))
      (pss_one (ps_set (i := 1) sc_law_words.nd rfl (.inl rfl) (pe_op op_cat (pv 1) (pe_call G_law_words.ok hr (by rfl) G_law_words.m G_law_words.kp G_law_words.b .nil pass0 (pa_cons (pv 2) pa_nil))))))
    (pss_one (ps_ret (pv 1)))))), ?_⟩
    rcases hg.inner ho with ⟨n, rfl, et⟩ | ⟨wd, us, fs, et, hfs, ews, hin, l2, l1, hnum⟩
    · refine ⟨_, rfl, t, _, _, _, rfl, rfl, SqT.of et, atI_nat (j := 0) rfl, rfl, _, rfl, iteT' (decide_eq_true rfl) ?_⟩
      have sl : n.natAbs.log2 < 1920 := log_small (n := 100) (Nat.lt_of_lt_of_le ho (by decide +kernel)) (by decide) (by decide)
      exact ⟨_, rfl, t, _, _, _, rfl, rfl, SqT.of et, atI_nat (j := 1) rfl, _, rfl, sl, (by show 1 ≤ sizeLine; decide), fun q nq => fin _ q (same_new nq _) nq upd_same⟩
    · refine ⟨_, rfl, t, _, _, _, rfl, rfl, SqT.of et, atI_nat (j := 0) rfl, rfl, _, rfl, iteF' (decide_eq_false fun z => hnum (V.str.inj z)) ?_⟩
      refine ⟨_, rfl, t, _, _, _, rfl, rfl, SqT.of et, atI_nat (j := 0) rfl, (by show 1 ≤ sizeLine; decide), fun q nq => ?_⟩
      have S1 := same_new nq (.lst [V.str wd])
      refine ⟨_, rfl, _, rfl, t, _, rfl, SqT.of (S1 _ _ et), not_whole (i := 1) (by decide) (by rw [List.length_cons]; omega), fun c nc => ?_⟩
      have S2 := same_new nc (.tup (cutV (V.str wd :: us) (some 1) none))
      have ec : (upd (upd H q (.lst [V.str wd])) c (.tup (cutV (V.str wd :: us) (some 1) none))) c = some (.tup us) := by
        rw [upd_same, show cutV (V.str wd :: us) (some 1) none = (V.str wd :: us).drop 1 from cut_from _ 1 (by rw [List.length_cons]; omega)]; rfl
      have hq2 := S2 _ _ (show (upd H q (.lst [V.str wd])) q = some (.lst [V.str wd]) from upd_same)
      have S12 := S1.trans S2
      have fl : ∀ i, ((fs.take i).flatMap Fm.ws).length ≤ (fs.flatMap Fm.ws).length := fun i => by
        have e : fs.flatMap Fm.ws = (fs.take i).flatMap Fm.ws ++ (fs.drop i).flatMap Fm.ws := by rw [← List.flatMap_append, List.take_append_drop]
        rw [e, List.length_append]; exact Nat.le_add_right _ _
      have lall : (fs.flatMap Fm.ws).length ≤ 1000000 := by rw [ews, List.length_cons] at hlen; omega
      refine ⟨c, rfl, ⟨_, SqT.of ec⟩, for_tup (xs := us) (fun i σ H' => ∃ (y2 : Option V) (q' : Addr), σ = [some (.ref t), some (.ref q'), y2] ∧ Same H H' ∧ H' c = some (.tup us) ∧ H q' = none ∧ H' q' = some (.lst ((wd :: (fs.take i).flatMap Fm.ws).map V.str)))
        ⟨none, q, rfl, S12, ec, nq, hq2⟩ (fun i σ H' _ hP => by obtain ⟨_, _, _, _, h, _⟩ := hP; exact SqT.of h) (fun i x σ H' hx hP => ?_) (fun σ H' hP => ?_)⟩
      · obtain ⟨y2, q', rfl, sm, hc, nq', hq'⟩ := hP
        obtain ⟨tx, gx, rfl, hgx, hfx⟩ := (hfs.same sm).get hx
        have mg := List.mem_of_getElem? hgx
        obtain ⟨hlt, hok⟩ := hin gx mg
        have lgx : gx.ws.length ≤ (fs.flatMap Fm.ws).length := by
          have e2 := fl (i + 1)
          rw [List.take_add_one, hgx, List.flatMap_append, List.length_append] at e2
          have e3 : ((some gx).toList.flatMap Fm.ws).length = gx.ws.length := by simp
          omega
        refine ⟨_, rfl, _, rfl, tx, gx, rfl, hfx, by omega, hok, by omega, fun H5 q5 s5 nq5 hq5 => ?_⟩
        have hq'5 := s5 _ _ hq'
        refine ⟨q', q5, _, _, rfl, rfl, hq'5, hq5, ?_, fun q6 nq6 => ?_⟩
        · rw [List.length_map, List.length_map, List.length_cons, sizeLine_eq]
          have := fl i
          omega
        · have S6 := same_new nq6 (.lst ((wd :: (fs.take i).flatMap Fm.ws).map V.str ++ gx.ws.map V.str))
          refine ⟨_, q6, rfl, sm.trans (s5.trans S6), (s5.trans S6) _ _ hc, (sm.trans s5).free nq6, ?_⟩
          rw [upd_same, List.take_add_one, hgx, List.flatMap_append, ← List.map_append]
          congr 3
          simp
      · obtain ⟨y2, q', rfl, sm, hc, nq', hq'⟩ := hP
        refine ⟨_, rfl, fin _ q' sm nq' ?_⟩
        rw [hq', ews, hfs.len, List.take_length]
end
end KJ

namespace KJ
open PySem PySem.Spec PyProof.Rows L2 KG
abbrev s_law_is_whole : Stmt := topS 15
abbrev N_law_is_whole : List Str := ["word", "digits", "char"]
theorem sc_law_is_whole : FnScope N_law_is_whole ["word"] (defScope s_law_is_whole) := ⟨rfl, rfl, rfl, by decide +kernel, rfl, by decide +kernel, by decide +kernel⟩
section
variable {P : Program} {w : World} {K : PySem.W.Frag} {mg : Str → Option Value} {base : Heap}
def sp_law_is_whole : Sp := fun vs H Q _ => ∃ x : Str, vs = [.str x] ∧ x.length ≤ 10000000 ∧ ∀ H', Same H H' → Q (.bl (isWhole x)) H'
theorem ok_law_is_whole {f : Addr} {fd : FuncData} {k : Nat} (F : Fun K "_law_is_whole" "_law_is_whole" s_law_is_whole f fd) (M : Names mg) : FnOk P w K mg base CX0 (k + 1) f fd ["word"] sp_law_is_whole := by
  refine F.ok sc_law_is_whole (fun vs H Q E h => ?_) (fun cdv A outer s H vs Q E hr h => ?_)
  · obtain ⟨x, rfl, _⟩ := h
    rfl
  obtain ⟨x, rfl, hx, fin⟩ := h
  have szl : ∀ y : Str, y.length ≤ x.length → y.length ≤ sizeLine := fun y h => by rw [sizeLine_eq]; omega
  refine ⟨_, (pss_cons (ps_set (i := 1) sc_law_is_whole.nd rfl (.inl rfl) (pv 0))
    (pss_cons (ps_if (pt_cmpR op_eq (pe_slice sl_str (pv 0) po_none (po_some pe_int)) pe_str (nomark _))
      (pss_one (ps_set (i := 1) sc_law_is_whole.nd rfl (.inl rfl) (pe_slice sl_str (pv 0) (po_some pe_int) po_none)))
      pss_nil)
    (pss_cons (ps_if (PW.pt (pw_or (pt_cmpR op_lt (pe_callB call_len_str (by rfl) M.len PySem.boot_len (pa_cons (pv 1) pa_nil)) pe_int (nomark _)) (pw_or (pt_cmpR op_gt (pe_callB call_len_str (by rfl) M.len PySem.boot_len (pa_cons (pv 1) pa_nil)) pe_int (nomark _)) (pw_or1 (pt_not (pt_val (pe_callB (cr_all rfl) (by rfl) M.all (by decide +kernel) (pa_cons (pe_lc (own := [("char", 2)]) (g := gName 2) (by rfl) sc_law_is_whole.nd (pi_str (pv 1)) (blkOk_by (own := [("char", 2)]) (N := N_law_is_whole) (sc := defScope s_law_is_whole) (by decide +kernel)) (fun _ _ _ _ _ => pg_name (i := 2) sc_law_is_whole.nd rfl (Or.inl rfl)) (fun _ _ _ _ _ => pts_nil) (fun _ _ _ _ _ => (pe_cmpR op_in_sign (pv 2) pe_str (by rfl)))) pa_nil))))))))
      (pss_one (ps_ret pe_bl))
      pss_nil)
    (pss_one (ps_ret (pe_or (pe_cmpR op_eq (pv 0) pe_str (nomark _)) (pe_one (pe_cmpR op_ne (pe_ix ix_str (pv 1) pe_int (fun _ _ => rfl)) pe_str (nomark _))))))))), ?_⟩
  have dl := digs_le x
  refine ⟨_, rfl, _, rfl, _, rfl, x, rfl, szl _ (Nat.le_refl _), rfl, _, rfl, ite2 (fun c => ?_) (fun c => ?_)⟩
  · have cd : cutS x none (some 1) = "-" := V.str.inj (of_decide_eq_true c)
    refine ⟨_, rfl, _, rfl, x, rfl, szl _ (Nat.le_refl _), ?_⟩
    have ey : cutS x (some 1) none = digs x := by unfold digs; rw [if_pos cd]
    have ny : (cutS x (some 1) none).length ≤ sizeLine := szl _ (by rw [ey]; exact dl)
    have bad : isWhole x = false → ∀ H', Same H H' → Q (.bl false) H' := fun e H' sm => by
      have q := fin H' sm
      rwa [e] at q
    refine ⟨_, rfl, _, rfl, ny, _, _, rfl, rfl, _, rfl, ite2 (fun c1 => iteT ?_) (fun c1 => ⟨_, rfl, _, rfl, ny, _, _, rfl, rfl, _, rfl, ite2 (fun c2 => iteT ?_) (fun c2 => ?_)⟩)⟩
    · have h := of_decide_eq_true c1
      refine bad ?_ _ (fun _ _ e => e)
      unfold isWhole
      rw [← ey, decide_eq_false (show ¬ 1 ≤ (cutS x (some 1) none).length by omega)]; rfl
    · have h := of_decide_eq_true c2
      refine bad ?_ _ (fun _ _ e => e)
      unfold isWhole
      rw [← ey, decide_eq_false (show ¬ (cutS x (some 1) none).length ≤ 30 by omega)]; simp
    have g1 : 1 ≤ (cutS x (some 1) none).length := by have := of_decide_eq_false (Bool.eq_false_iff.mpr c1); omega
    have g2 : (cutS x (some 1) none).length ≤ 30 := by have := of_decide_eq_false (Bool.eq_false_iff.mpr c2); omega
    refine ⟨_, rfl, _, rfl, fun D nD => comp_str (fun c => V.bl (decide (c ∈ dec))) nD (by show (cutS x (some 1) none).length ≤ 1000; omega) (fun i c H4 Nx hc s4 hN => ?_) (fun H4 s4 hD => ?_)⟩
    · exact ⟨rfl, _, rfl, c, _, rfl, rfl, hN⟩
    · refine ⟨D, (cutS x (some 1) none).cps.toList.map (fun c => decide (c ∈ dec)), rfl, SqL.of (by rw [hD, List.map_map]; rfl), _, rfl, ite2 (fun c3 => ?_) (fun c3 => ?_)⟩
      · have h3 : ((cutS x (some 1) none).cps.toList.map (fun c => decide (c ∈ dec))).all id = false := (Bool.not_eq_true' _).mp c3
        refine bad ?_ _ s4
        rw [List.all_map] at h3
        unfold isWhole
        rw [← ey, show (cutS x (some 1) none).cps.toList.all (fun c => decide (c ∈ dec)) = false from h3]; simp
      · have h3 : ((cutS x (some 1) none).cps.toList.map (fun c => decide (c ∈ dec))).all id = true := (Bool.not_eq_false' (b := _)).mp (Bool.eq_false_iff.mpr c3)
        rw [List.all_map] at h3
        have e : isWhole x = (decide (x = "0") || decide ((cutS x (some 1) none).cps[0]? ≠ some 48)) := by
          unfold isWhole
          rw [← ey, decide_eq_true g1, decide_eq_true g2, show (cutS x (some 1) none).cps.toList.all (fun c => decide (c ∈ dec)) = true from h3]; simp
        have q := fin H4 s4
        rw [e] at q
        refine ⟨_, rfl, rfl, _, rfl, ite2 (fun c4 => ?_) (fun c4 => ?_)⟩
        · have h4 : x = "0" := V.str.inj (of_decide_eq_true c4)
          rw [decide_eq_true h4] at q
          exact q
        · have h4 : x ≠ "0" := fun z => c4 (decide_eq_true (by rw [z]))
          rw [decide_eq_false h4, Bool.false_or] at q
          have hs : 0 < (cutS x (some 1) none).cps.size := g1
          have hg : (cutS x (some 1) none).cps[0]? = some ((cutS x (some 1) none).cps[0]) := Array.getElem?_eq_getElem hs
          refine ⟨_, rfl, _, 0, (cutS x (some 1) none).cps[0], rfl, rfl, ny, atI_nat (j := 0) (by rw [Array.getElem?_toList]; exact hg), rfl, ?_⟩
          rw [hg] at q
          have e5 : (!decide (V.str ⟨#[(cutS x (some 1) none).cps[0]]⟩ = V.str "0")) = decide (some (cutS x (some 1) none).cps[0] ≠ some 48) := by
            by_cases z : (cutS x (some 1) none).cps[0] = 48
            · rw [z]; rfl
            · rw [decide_eq_true (p := some _ ≠ some 48) (fun y => z (Option.some.inj y)), decide_eq_false (fun y => z (by
                have y2 := V.str.inj y
                have y3 := congrArg (fun t : Str => t.cps.toList) y2
                exact (List.cons.inj (y3.trans (show ("0" : Str).cps.toList = [48] by decide +kernel))).1))]; rfl
          show Q (V.bl (!decide (V.str ⟨#[(cutS x (some 1) none).cps[0]]⟩ = V.str "0"))) _
          rw [e5]
          exact q
  · have cd : cutS x none (some 1) ≠ "-" := fun e => c (decide_eq_true (by rw [e]))
    have ey : x = digs x := by unfold digs; rw [if_neg cd]
    have ny : x.length ≤ sizeLine := szl _ (by exact Nat.le_refl _)
    have bad : isWhole x = false → ∀ H', Same H H' → Q (.bl false) H' := fun e H' sm => by
      have q := fin H' sm
      rwa [e] at q
    refine ⟨_, rfl, _, rfl, ny, _, _, rfl, rfl, _, rfl, ite2 (fun c1 => iteT ?_) (fun c1 => ⟨_, rfl, _, rfl, ny, _, _, rfl, rfl, _, rfl, ite2 (fun c2 => iteT ?_) (fun c2 => ?_)⟩)⟩
    · have h := of_decide_eq_true c1
      refine bad ?_ _ (fun _ _ e => e)
      unfold isWhole
      rw [show digs x = x from ey.symm, decide_eq_false (show ¬ 1 ≤ x.length by omega)]; rfl
    · have h := of_decide_eq_true c2
      refine bad ?_ _ (fun _ _ e => e)
      unfold isWhole
      rw [show digs x = x from ey.symm, decide_eq_false (show ¬ x.length ≤ 30 by omega)]; simp
    have g1 : 1 ≤ x.length := by have := of_decide_eq_false (Bool.eq_false_iff.mpr c1); omega
    have g2 : x.length ≤ 30 := by have := of_decide_eq_false (Bool.eq_false_iff.mpr c2); omega
    refine ⟨_, rfl, _, rfl, fun D nD => comp_str (fun c => V.bl (decide (c ∈ dec))) nD (by show x.length ≤ 1000; omega) (fun i c H4 Nx hc s4 hN => ?_) (fun H4 s4 hD => ?_)⟩
    · exact ⟨rfl, _, rfl, c, _, rfl, rfl, hN⟩
    · refine ⟨D, x.cps.toList.map (fun c => decide (c ∈ dec)), rfl, SqL.of (by rw [hD, List.map_map]; rfl), _, rfl, ite2 (fun c3 => ?_) (fun c3 => ?_)⟩
      · have h3 : (x.cps.toList.map (fun c => decide (c ∈ dec))).all id = false := (Bool.not_eq_true' _).mp c3
        refine bad ?_ _ s4
        rw [List.all_map] at h3
        unfold isWhole
        rw [show digs x = x from ey.symm, show x.cps.toList.all (fun c => decide (c ∈ dec)) = false from h3]; simp
      · have h3 : (x.cps.toList.map (fun c => decide (c ∈ dec))).all id = true := (Bool.not_eq_false' (b := _)).mp (Bool.eq_false_iff.mpr c3)
        rw [List.all_map] at h3
        have e : isWhole x = (decide (x = "0") || decide (x.cps[0]? ≠ some 48)) := by
          unfold isWhole
          rw [show digs x = x from ey.symm, decide_eq_true g1, decide_eq_true g2, show x.cps.toList.all (fun c => decide (c ∈ dec)) = true from h3]; simp
        have q := fin H4 s4
        rw [e] at q
        refine ⟨_, rfl, rfl, _, rfl, ite2 (fun c4 => ?_) (fun c4 => ?_)⟩
        · have h4 : x = "0" := V.str.inj (of_decide_eq_true c4)
          rw [decide_eq_true h4] at q
          exact q
        · have h4 : x ≠ "0" := fun z => c4 (decide_eq_true (by rw [z]))
          rw [decide_eq_false h4, Bool.false_or] at q
          have hs : 0 < x.cps.size := g1
          have hg : x.cps[0]? = some (x.cps[0]) := Array.getElem?_eq_getElem hs
          refine ⟨_, rfl, _, 0, x.cps[0], rfl, rfl, ny, atI_nat (j := 0) (by rw [Array.getElem?_toList]; exact hg), rfl, ?_⟩
          rw [hg] at q
          have e5 : (!decide (V.str ⟨#[x.cps[0]]⟩ = V.str "0")) = decide (some x.cps[0] ≠ some 48) := by
            by_cases z : x.cps[0] = 48
            · rw [z]; rfl
            · rw [decide_eq_true (p := some _ ≠ some 48) (fun y => z (Option.some.inj y)), decide_eq_false (fun y => z (by
                have y2 := V.str.inj y
                have y3 := congrArg (fun t : Str => t.cps.toList) y2
                exact (List.cons.inj (y3.trans (show ("0" : Str).cps.toList = [48] by decide +kernel))).1))]; rfl
          show Q (V.bl (!decide (V.str ⟨#[x.cps[0]]⟩ = V.str "0"))) _
          rw [e5]
          exact q
end
end KJ

namespace KG
open PySem PySem.Spec PyProof.Rows L2
theorem in_strs (x : Str) : ∀ l : List Str, inV (.str x) (l.map V.str) = decide (x ∈ l)
  | [] => by simp [inV]
  | y :: l => by
    have ih := in_strs x l
    show ((y == x) || inV (.str x) (l.map V.str)) = _
    rw [ih, Bool.eq_iff_iff]
    simp only [Bool.or_eq_true, beq_iff_eq, decide_eq_true_eq, List.mem_cons]
    exact ⟨fun h => h.elim (fun e => .inl e.symm) .inr, fun h => h.elim (fun e => .inl e.symm) .inr⟩
theorem pn_zero {x : Str} (h : x ∉ twos) (k : x ∉ ones) : pn x = 0 := by unfold pn; rw [if_neg h, if_neg k]
def dueI (ws : List Str) : Int := match faultF ws with
  | some k => (k : Int)
  | none => -1
end KG
namespace KJ
open PySem PySem.Spec PyProof.Rows L2 KG
abbrev s_law_fault : Stmt := topS 16
abbrev N_law_fault : List Str := ["words", "due", "at"]
theorem sc_law_fault : FnScope N_law_fault ["words"] (defScope s_law_fault) := ⟨rfl, rfl, rfl, by decide +kernel, rfl, by decide +kernel, by decide +kernel⟩
abbrev s_law_told : Stmt := topS 17
abbrev N_law_told : List Str := ["text", "e"]
theorem sc_law_told : FnScope N_law_told ["text"] (defScope s_law_told) := ⟨rfl, rfl, rfl, by decide +kernel, rfl, by decide +kernel, by decide +kernel⟩
section
variable {P : Program} {w : World} {K : PySem.W.Frag} {mg : Str → Option Value} {base : Heap} {C fI W : Addr}
def sp_law_fault : Sp := fun vs H Q _ => ∃ (l : Addr) (ws : List Str), vs = [.ref l] ∧ H l = some (.lst (ws.map V.str)) ∧ ws.length ≤ 1000000 ∧ (∀ x ∈ ws, x.length ≤ 10000000) ∧ ∀ H', Same H H' → Q (.int (dueI ws)) H'
theorem ok_law_fault {f : Addr} {fd : FuncData} {k : Nat} (F : Fun K "_law_fault" "_law_fault" s_law_fault f fd) (M : Names mg) (G_law_is_whole : Cal P w K mg base k "_law_is_whole" ["word"] sp_law_is_whole) : FnOk P w K mg base CX0 (k + 1) f fd ["words"] sp_law_fault := by
  refine F.ok sc_law_fault (fun vs H Q E h => ?_) (fun cdv A outer s H vs Q E hr h => ?_)
  · obtain ⟨l, ws, rfl, _⟩ := h
    rfl
  obtain ⟨l, ws, rfl, hl, hlen, hx, fin⟩ := h
  refine ⟨_, (pss_cons (ps_set (i := 1) sc_law_fault.nd rfl (.inl rfl) pe_int)
    (pss_cons (ps_for PassesOwn.never rfl (pi_range1 (by rfl) M.range (pa_cons (pe_callB call_len_seq (by rfl) M.len PySem.boot_len (pa_cons (pv 0) pa_nil)) pa_nil)) (pg_name (i := 2) sc_law_fault.nd rfl (.inl rfl))
      (pss_cons (ps_if (pt_cmpR op_eq (pv 1) pe_int (nomark _))
        (pss_one (ps_ret (pv 2)))
        pss_nil)
      (pss_one (ps_if (pt_cmpR op_in_seq (pe_ix ix_list (pv 0) (pv 2) (fun _ _ => rfl)) (pe_lst (pa_cons pe_str (pa_cons pe_str (pa_cons pe_str (pa_cons pe_str pa_nil))))) (by rfl))
        (pss_one (ps_set (i := 1) sc_law_fault.nd rfl (.inl rfl) (pe_op op_add (pv 1) pe_int)))
        (pss_one (ps_if (pt_cmpR op_in_seq (pe_ix ix_list (pv 0) (pv 2) (fun _ _ => rfl)) (pe_lst (pa_cons pe_str (pa_cons pe_str pa_nil))) (by rfl))
          (pss_one (ps_set (i := 1) sc_law_fault.nd rfl (.inl rfl) (pe_op op_add (pv 1) pe_int)))
          (pss_one (ps_if (pt_val (pe_call G_law_is_whole.ok hr (by rfl) G_law_is_whole.m G_law_is_whole.kp G_law_is_whole.b .nil pass0 (pa_cons (pe_ix ix_list (pv 0) (pv 2) (fun _ _ => rfl)) pa_nil)))
            (pss_one (ps_set (i := 1) sc_law_fault.nd rfl (.inl rfl) (pe_op op_sub (pv 1) pe_int)))
            (pss_one (ps_ret (pv 2)))))))))))
    (pss_one (ps_ret (pe_ix ix_list (pe_lst (pa_cons (pe_callB call_len_seq (by rfl) M.len PySem.boot_len (pa_cons (pv 0) pa_nil)) (pa_cons (pe_un un_neg pe_int) pa_nil))) (pe_callTy call_int1 (by rfl) M.int (by decide +kernel) (pa_cons (pe_cmpR op_eq (pv 1) pe_int (nomark _)) pa_nil)) (fun _ _ => rfl)))))), ?_⟩
  have lws : (ws.map V.str).length = ws.length := List.length_map _
  refine ⟨_, rfl, l, _, rfl, .inl (SqL.of hl), _, rfl, by show -(2 ^ 62) ≤ (((ws.map V.str).length : Nat) : Int); omega, by show (((ws.map V.str).length : Nat) : Int) < 2 ^ 62; omega, for_range (lo := 0) (n := (ws.map V.str).length) (fun i σ H' => ∃ (m : Nat) (y2 : Option V), σ = [some (.ref l), some (.int (m : Int)), y2] ∧ Same H H' ∧ flt i m (ws.drop i) = faultF ws)
    ⟨1, none, rfl, fun _ _ e => e, rfl⟩ (fun i σ H' hi hP => ?_) (fun σ H' hP => ?_)⟩
  · obtain ⟨m, y2, rfl, sm, hf⟩ := hP
    rw [lws] at hi
    have gx : ws[i]? = some ws[i] := List.getElem?_eq_getElem hi
    have mx := List.getElem_mem hi
    have ed : ws.drop i = ws[i] :: ws.drop (i + 1) := List.drop_eq_getElem_cons hi
    rw [ed] at hf
    generalize ws[i] = x at gx mx hf
    have step : flt i m (x :: ws.drop (i + 1)) = if m = 0 ∨ (pn x = 0 ∧ isWhole x = false) then some i else flt (i + 1) (m + pn x - 1) (ws.drop (i + 1)) := rfl
    rw [step] at hf
    have stop : (m = 0 ∨ (pn x = 0 ∧ isWhole x = false)) → ∀ H', Same H H' → Q (.int (0 + (i : Nat))) H' := fun h H' s => by
      have q := fin H' s
      unfold dueI at q
      rw [← hf, if_pos h] at q
      rw [Int.zero_add]; exact q
    have hix : ∀ i : Int, i = 0 + ((‹Nat› : Nat) : Int) → True := fun _ _ => trivial
    have hat : atI (ws.map V.str) (0 + (i : Nat)) = some (.str x) := by rw [Int.zero_add]; exact atI_nat (by rw [List.getElem?_map, gx]; rfl)
    refine ⟨_, rfl, rfl, _, rfl, ite2 (fun c1 => ?_) (fun c1 => ?_)⟩
    · have h1 : m = 0 := by have := V.int.inj (of_decide_eq_true c1); omega
      exact ⟨_, rfl, stop (.inl h1) _ sm⟩
    have m1 : 1 ≤ m := by
      have : ¬ m = 0 := fun z => c1 (decide_eq_true (by rw [z]; rfl))
      omega
    refine ⟨_, rfl, _, rfl, l, _, _, _, rfl, rfl, SqL.of (sm _ _ hl), hat, (by show 4 ≤ sizeLine; decide), fun q1 n1 => ⟨q1, _, rfl, .inl (SqL.of upd_same), rfl, rfl, _, rfl, ?_⟩⟩
    have S1 := same_new n1 (.lst (twos.map V.str))
    have i1 : inV (.str x) [V.str "add", .str "sub", .str "mul", .str "div"] = decide (x ∈ twos) := in_strs x twos
    rw [show (if false = true then !inV (V.str x) [V.str "add", .str "sub", .str "mul", .str "div"] else inV (V.str x) [V.str "add", .str "sub", .str "mul", .str "div"]) = decide (x ∈ twos) from i1]
    refine ite2 (fun c2 => ?_) (fun c2 => ?_)
    · have h2 := two_pn (of_decide_eq_true c2)
      refine ⟨_, rfl, _, _, rfl, rfl, m + 1, _, by rw [show ((m + 1 : Nat) : Int) = (m : Int) + 1 by omega]; rfl, sm.trans S1, ?_⟩
      rw [← hf, if_neg (by rw [h2]; omega), h2]; rfl
    have n2 : x ∉ twos := of_decide_eq_false (Bool.eq_false_iff.mpr c2)
    have sm1 := sm.trans S1
    refine ⟨_, rfl, _, rfl, l, _, _, _, rfl, rfl, SqL.of (sm1 _ _ hl), hat, (by show 2 ≤ sizeLine; decide), fun q2 n2' => ⟨q2, _, rfl, .inl (SqL.of upd_same), rfl, rfl, _, rfl, ?_⟩⟩
    have S2 := same_new n2' (.lst (ones.map V.str))
    have i2 : inV (.str x) [V.str "neg", .str "root"] = decide (x ∈ ones) := in_strs x ones
    rw [show (if false = true then !inV (V.str x) [V.str "neg", .str "root"] else inV (V.str x) [V.str "neg", .str "root"]) = decide (x ∈ ones) from i2]
    refine ite2 (fun c3 => ?_) (fun c3 => ?_)
    · have h2 := one_pn (of_decide_eq_true c3)
      refine ⟨_, rfl, _, _, rfl, rfl, m, _, by rw [show (m : Int) = (m : Int) + 0 by omega]; rfl, sm1.trans S2, ?_⟩
      rw [← hf, if_neg (by rw [h2]; omega), h2]; rfl
    have n3 : x ∉ ones := of_decide_eq_false (Bool.eq_false_iff.mpr c3)
    have h0 := pn_zero n2 n3
    have sm2 := sm1.trans S2
    refine ⟨_, rfl, _, rfl, l, _, _, _, rfl, rfl, SqL.of (sm2 _ _ hl), hat, x, rfl, hx x mx, fun H5 s5 => ⟨_, rfl, ite2 (fun c4 => ?_) (fun c4 => ?_)⟩⟩
    · refine ⟨_, rfl, _, _, rfl, rfl, m - 1, _, by rw [show ((m - 1 : Nat) : Int) = (m : Int) - 1 by omega]; rfl, sm2.trans s5, ?_⟩
      rw [← hf, if_neg (by rw [c4]; simp; omega), h0]; rfl
    · exact ⟨_, rfl, stop (.inr ⟨h0, Bool.eq_false_iff.mpr c4⟩) _ (sm2.trans s5)⟩
  · obtain ⟨m, y2, rfl, sm, hf⟩ := hP
    rw [lws, List.drop_length] at hf
    have hf : (if 0 < m then some ws.length else none) = faultF ws := hf
    refine ⟨_, rfl, l, _, rfl, .inl (SqL.of (sm _ _ hl)), _, rfl, (by show 2 ≤ sizeLine; decide), fun q nq => ?_⟩
    have S1 := same_new nq (.lst [V.int ((ws.map V.str).length : Nat), .int (-1)])
    have q2 := fin _ (sm.trans S1)
    unfold dueI at q2
    rw [← hf] at q2
    refine ⟨_, rfl, rfl, .inr ⟨_, rfl, ?_⟩⟩
    by_cases h : m = 0
    · rw [show decide (V.int (m : Int) = V.int 0) = true from decide_eq_true (by rw [h]; rfl)]
      rw [if_neg (by omega)] at q2
      exact ⟨q, _, 1, _, rfl, rfl, SqL.of upd_same, atI_nat (j := 1) rfl, q2⟩
    · rw [show decide (V.int (m : Int) = V.int 0) = false from decide_eq_false (fun z => h (by have := V.int.inj z; omega))]
      rw [if_pos (by omega)] at q2
      have q3 : ∀ v, v = V.int (ws.length : Int) → Q v (upd H' q (.lst [V.int ((ws.map V.str).length : Nat), .int (-1)])) := fun v e => by rw [e]; exact q2
      exact ⟨q, _, 0, _, rfl, rfl, SqL.of upd_same, atI_nat (j := 0) rfl, q3 _ (by rw [lws])⟩
def sp_law_told : Sp := fun vs H Q _ => ∃ x : Str, vs = [.str x] ∧ x.length ≤ 900000 ∧
  (faultF (Txt.split x " ") = none → ∀ H' q p f, Same H H' → H' q = some (.tup [.int (-1), .ref p]) → FAt H' p f → f.ws = Txt.split x " " → f.ok → Q (.ref q) H') ∧
  (∀ k, faultF (Txt.split x " ") = some k → ∀ H' q, Same H H' → H' q = some (.tup [.int (k : Int), .non]) → Q (.ref q) H')
theorem ok_law_told {f fc : Addr} {fd fdc : FuncData} {k : Nat} (F : Fun K "_law_told" "_law_told" s_law_told f fd) (M : Names mg) (T : OwnE K mg "BadText" "place" C fI W) (gW : mg "WorkError" = some (.ref W))
    (G : FnOk P w K mg base (L2.CX P w) k fc fdc ["text"] (sp_read_formula C)) (gm : mg "read_formula" = some (.ref fc)) (gk : PySem.W.keepIn K (.ref fc) = true) (gb : Binds K fdc ["text"] []) : FnOk P w K mg base CX0 (k + 1) f fd ["text"] sp_law_told := by
  refine F.ok sc_law_told (fun vs H Q E h => ?_) (fun cdv A outer s H vs Q E hr h => ?_)
  · obtain ⟨x, rfl, _⟩ := h
    rfl
  obtain ⟨x, rfl, hx, kN, kB⟩ := h
  refine ⟨_, pss_one (ps_try_as (i := 1) (tb := fun W => tRet (tTup (tCons (tUn (rU fun i => .int (-i)) (tC (.int 1))) (tCons (tCallS (sp_read_formula C) (WE W) (tCons (tVar 0) tNil)) tNil))))
    (ts := fun a cls d => tSeq (tIfS (tOr (tNot (tB (tCB (rIsED K C a cls d) (tCons (tVar 1) (tCons (tC (.ref W)) tNil))))) (tNot (tB (tCB (rIsED K C a cls d) (tCons (tVar 1) (tCons (tC (.ty "ValueError")) tNil)))))) (tRet (tC .non)) tNext) (tRet (tTup (tCons (tXf a cls d C "place" (tVar 1)) (tCons (tC .non) tNil)))))
    (Wout := fun _ _ _ _ => False) rfl rfl sc_law_told.nd rfl rfl ⟨rfl, by decide, Or.inl T.gC⟩ takes0
    (fun W pn xe tk _ => pss_one (ps_ret (by exact (pe_tup (pa_cons (pe_un un_neg pe_int) (pa_cons (pe_callS G hr rfl gm gk gb (fun σ => passAt tk σ) (by exact (pa_cons (pv 0) pa_nil))) pa_nil))))))
    (fun a oe cls d pn hz hf => pss_cons (ps_if (PW.pt (pw_or (pt_not (pt_val (pe_callB (call_isED T.is T.cl hz hf) (by rfl) M.isinstance (by decide +kernel) (pa_cons (pv 1) (pa_cons (pe_glob (by rfl) gW rfl) pa_nil))))) (pw_or1 (pt_not (pt_val (pe_callB (call_isED T.is T.cl hz hf) (by rfl) M.isinstance (by decide +kernel) (pa_cons (pv 1) (pa_cons (pe_bltn (by rfl) M.ValueError (by decide +kernel) rfl) pa_nil)))))))) (pss_one (ps_ret pe_non)) pss_nil)
      (pss_one (ps_ret (pe_tup (pa_cons (pe_xf T.xf T.noF hz hf (pv 1)) (pa_cons pe_non pa_nil))))))), ?_⟩
  refine ⟨_, rfl, _, rfl, x, rfl, hx, fun hb H' p g sm hg hw ho => ?_, fun k hb H' d sm hd => ?_⟩
  · exact ⟨(by show 2 ≤ sizeLine; decide), fun q nq => kN hb _ q p g (sm.trans (same_new nq _)) upd_same (hg.same (same_new nq _)) hw ho⟩
  · refine ⟨true, T.exm, fun _ a0 na0 => ?_, fun z => Bool.noConfusion z⟩
    refine ⟨_, rfl, rfl, d, _, _, _, _, rfl, hd, rfl, (fun u r => r), T.kW, true, rfl, iteF' rfl ?_⟩
    refine ⟨_, rfl, rfl, d, _, _, _, _, rfl, hd, rfl, (fun u r => r), T.kV, true, rfl, iteF' rfl ?_⟩
    refine ⟨_, rfl, rfl, rfl, d, _, _, rfl, hd, rfl, (by show 2 ≤ sizeLine; decide), fun q nq => ?_⟩
    exact kB k hb _ q (sm.trans (same_new nq _)) upd_same
end
end KJ

namespace KG
open PySem PySem.Spec PyProof.Rows L2
def GoodW (n : Nat) (ws : List Str) : Prop := ws.length ≤ n ∧ ∀ x ∈ ws, x.length ≤ 31 ∧ 32 ∉ TL.tl x
theorem GoodW.cut {n : Nat} {ls : List Str} (h : GoodW n ls) (lo hi : Option Int) : GoodW n (cutG ls lo hi) := ⟨Nat.le_trans (cutG_len _ _ _) h.1, fun x hx => h.2 x (cutG_mem hx)⟩
theorem GoodW.app {n n' : Nat} {ls rs : List Str} (h : GoodW n ls) (k : GoodW n' rs) : GoodW (n + n') (ls ++ rs) := ⟨by rw [List.length_append]; have := h.1; have := k.1; omega, fun x hx => by
  rcases List.mem_append.mp hx with q | q
  · exact h.2 x q
  · exact k.2 x q⟩
theorem GoodW.mono {n n' : Nat} {ls : List Str} (h : GoodW n ls) (a : n ≤ n') : GoodW n' ls := ⟨Nat.le_trans h.1 a, h.2⟩
theorem GoodW.one {x : Str} (h : x.length ≤ 31) (k : 32 ∉ TL.tl x) : GoodW 1 [x] := ⟨Nat.le_refl _, fun y hy => by rw [List.mem_singleton.mp hy]; exact ⟨h, k⟩⟩
def oddW : List Str := ["add", "root", "-3", "12", "0", "-0", "007", "+5", "-", "", "Add", "roots", "1.5", "--2", "mul2", "x", "1_0", repS "9" 30, repS "9" 31, "neg", "1\n", "\t1", "7\t", "\n"]
theorem oddW_good : ∀ x ∈ oddW, x.length ≤ 31 ∧ 32 ∉ TL.tl x := by decide +kernel
theorem oddW_len : oddW.length = 24 := by decide +kernel
theorem wtext_len {n : Nat} {ws : List Str} (h : GoodW n ws) : (ws.map (·.length)).sum + ws.length * 1 ≤ 32 * n ∧ (Txt.join " " ws).length ≤ 32 * n := by
  have h1 := sum_le fun p hp => (h.2 p hp).1
  have h2 := sep_blank.join_len ws
  have := h.1
  exact ⟨by omega, by omega⟩
theorem dpN {K : PySem.W.Frag} {H : Hp} {q : Addr} {i : Int} (h : SqT K H q [.int i, .non]) : Dp K H (.ref q) (.tuple [.int i, .none]) := .tup h (.cons (.int i) (.cons .non .nil))
theorem shapedN (i : Int) : SeqAt.shaped (.tuple [.int i, .none]) = true := by simp [SeqAt.shaped, PyData.canLay0, PyData.canLayAll0, PyData.depth, PyData.depthAll]
theorem split0 : Txt.split "" " " = ([""] : List Str) := by decide +kernel
theorem fault0 : faultF (Txt.split "" " ") = some 0 := by rw [split0]; decide +kernel
theorem split1 : Txt.split "1 " " " = (["1", ""] : List Str) := by decide +kernel
theorem fault1 : faultF (Txt.split "1 " " ") = some 1 := by rw [split1]; decide +kernel
theorem split2 : Txt.split " 1" " " = (["", "1"] : List Str) := by decide +kernel
theorem fault2 : faultF (Txt.split " 1" " ") = some 0 := by rw [split2]; decide +kernel
end KG
namespace KJ
open PySem PySem.Spec PyProof.Rows L2 KG
abbrev slaw : Stmt := topS 18
abbrev Nlaw : List Str := ["script", "state", "words", "odd", "n", "at", "kind", "word", "text", "told", "due"]
theorem sclaw : FnScope Nlaw ["script"] (defScope slaw) := ⟨rfl, rfl, rfl, by decide +kernel, rfl, by decide +kernel, by decide +kernel⟩
section
variable {P : Program} {w : World} {K : PySem.W.Frag} {mg : Str → Option Value} {base : Heap}
def splaw (K : PySem.W.Frag) : Sp := fun vs H Q _ => ∃ (a : Addr) (ns : List Int), vs = [.ref a] ∧ SqL K H a (ns.map V.int) ∧ ns.length ≤ 63 ∧ ∀ H', Q (.bl true) H'
set_option maxHeartbeats 8000000 in
theorem oklaw {f : Addr} {fd : FuncData} {k : Nat} (F : Fun K "law" "law" slaw f fd) (M : Names mg) (G_law_state : Cal P w K mg base k "_law_state" ["script"] (sp_law_state K)) (G_law_take : Cal P w K mg base k "_law_take" ["state", "many"] (sp_law_take K))
    (G_law_formula : Cal P w K mg base k "_law_formula" ["state", "size", "most"] (sp_law_formula K 22)) (G_law_words : Cal P w K mg base k "_law_words" ["formula"] (sp_law_words K 200)) (G_law_fault : Cal P w K mg base k "_law_fault" ["words"] sp_law_fault)
    (G_law_told : Cal P w K mg base k "_law_told" ["text"] sp_law_told) : FnOk P w K mg base CX0 (k + 1) f fd ["script"] (splaw K) := by
  refine F.ok sclaw (fun vs H Q E h => ?_) (fun cdv A outer s H vs Q E hr h => ?_)
  · obtain ⟨a, ns, rfl, _⟩ := h
    rfl
  obtain ⟨a, ns, rfl, hS, h63, fin⟩ := h
  refine ⟨_, (pss_cons (ps_set (i := 1) sclaw.nd rfl (.inl rfl) (pe_call G_law_state.ok hr (by rfl) G_law_state.m G_law_state.kp G_law_state.b .nil pass0 (pa_cons (pv 0) pa_nil)))
    (pss_cons (ps_set (i := 2) sclaw.nd rfl (.inl rfl) (pe_call G_law_words.ok hr (by rfl) G_law_words.m G_law_words.kp G_law_words.b .nil pass0 (pa_cons (pe_call G_law_formula.ok hr (by rfl) G_law_formula.m G_law_formula.kp G_law_formula.b .nil pass0 (pa_cons (pv 1) (pa_cons (pe_op op_add pe_int (pe_call G_law_take.ok hr (by rfl) G_law_take.m G_law_take.kp G_law_take.b .nil pass0 (pa_cons (pv 1) (pa_cons pe_int pa_nil)))) (pa_cons pe_int pa_nil)))) pa_nil)))
    (pss_cons (ps_set (i := 3) sclaw.nd rfl (.inl rfl) (pe_lst (pa_cons pe_str (pa_cons pe_str (pa_cons pe_str (pa_cons pe_str (pa_cons pe_str (pa_cons pe_str (pa_cons pe_str (pa_cons pe_str (pa_cons pe_str (pa_cons pe_str (pa_cons pe_str (pa_cons pe_str (pa_cons pe_str (pa_cons pe_str (pa_cons pe_str (pa_cons pe_str (pa_cons pe_str (pa_cons (pe_op op_repS pe_str pe_int) (pa_cons (pe_op op_repS pe_str pe_int) (pa_cons pe_str (pa_cons pe_str (pa_cons pe_str (pa_cons pe_str (pa_cons pe_str pa_nil))))))))))))))))))))))))))
    (pss_cons (ps_for PassesOwn.never rfl (pi_range1 (by rfl) M.range (pa_cons (pe_call G_law_take.ok hr (by rfl) G_law_take.m G_law_take.kp G_law_take.b .nil pass0 (pa_cons (pv 1) (pa_cons pe_int pa_nil))) pa_nil)) (pg_name (i := 4) sclaw.nd rfl (.inl rfl))
      (pss_cons (ps_set (i := 5) sclaw.nd rfl (.inl rfl) (pe_call G_law_take.ok hr (by rfl) G_law_take.m G_law_take.kp G_law_take.b .nil pass0 (pa_cons (pv 1) (pa_cons (pe_op op_add (pe_callB call_len_seq (by rfl) M.len PySem.boot_len (pa_cons (pv 2) pa_nil)) pe_int) pa_nil))))
      (pss_cons (ps_set (i := 6) sclaw.nd rfl (.inl rfl) (pe_call G_law_take.ok hr (by rfl) G_law_take.m G_law_take.kp G_law_take.b .nil pass0 (pa_cons (pv 1) (pa_cons pe_int pa_nil))))
      (pss_cons (ps_set (i := 7) sclaw.nd rfl (.inl rfl) (pe_ix ix_list (pv 3) (pe_call G_law_take.ok hr (by rfl) G_law_take.m G_law_take.kp G_law_take.b .nil pass0 (pa_cons (pv 1) (pa_cons (pe_callB call_len_seq (by rfl) M.len PySem.boot_len (pa_cons (pv 3) pa_nil)) pa_nil))) (fun _ _ => rfl)))
      (pss_cons (ps_if (PW.pt (pw_and (pt_cmpR op_eq (pv 6) pe_int (nomark _)) (pw_and1 (pt_cmpR op_gt (pe_callB call_len_seq (by rfl) M.len PySem.boot_len (pa_cons (pv 2) pa_nil)) pe_int (nomark _)))))
        (pss_one (ps_set (i := 2) sclaw.nd rfl (.inl rfl) (pe_op op_cat (pe_slice sl_list (pv 2) po_none (po_some (pv 5))) (pe_slice sl_list (pv 2) (po_some (pe_op op_add (pv 5) pe_int)) po_none))))
        pss_nil)
      (pss_cons (ps_if (pt_cmpR op_eq (pv 6) pe_int (nomark _))
        (pss_one (ps_set (i := 2) sclaw.nd rfl (.inl rfl) (pe_op op_cat (pe_op op_cat (pe_slice sl_list (pv 2) po_none (po_some (pv 5))) (pe_slice sl_list (pv 2) (po_some (pv 5)) (po_some (pe_op op_add (pv 5) pe_int)))) (pe_slice sl_list (pv 2) (po_some (pv 5)) po_none))))
        pss_nil)
      (pss_cons (ps_if (pt_cmpR op_eq (pv 6) pe_int (nomark _))
        (pss_one (ps_set (i := 2) sclaw.nd rfl (.inl rfl) (pe_op op_cat (pe_op op_cat (pe_slice sl_list (pv 2) po_none (po_some (pv 5))) (pe_lst (pa_cons (pv 7) pa_nil))) (pe_slice sl_list (pv 2) (po_some (pv 5)) po_none))))
        pss_nil)
      (pss_cons (ps_if (pt_cmpR op_eq (pv 6) pe_int (nomark _))
        (pss_one (ps_set (i := 2) sclaw.nd rfl (.inl rfl) (pe_op op_cat (pe_op op_cat (pe_slice sl_list (pv 2) po_none (po_some (pv 5))) (pe_lst (pa_cons (pv 7) pa_nil))) (pe_slice sl_list (pv 2) (po_some (pe_op op_add (pv 5) pe_int)) po_none))))
        pss_nil)
      (pss_one (ps_if (PW.pt (pw_and (pt_cmpR op_eq (pv 6) pe_int (nomark _)) (pw_and1 (pt_cmpR op_gt (pv 5) pe_int (nomark _)))))
        (pss_one (ps_set (i := 2) sclaw.nd rfl (.inl rfl) (pe_slice sl_list (pv 2) po_none (po_some (pv 5)))))
        pss_nil))))))))))
    (pss_cons (ps_set (i := 8) sclaw.nd rfl (.inl rfl) (pe_join pe_str (pv 2)))
    (pss_cons (ps_set (i := 9) sclaw.nd rfl (.inl rfl) (pe_call G_law_told.ok hr (by rfl) G_law_told.m G_law_told.kp G_law_told.b .nil pass0 (pa_cons (pv 8) pa_nil)))
    (pss_cons (ps_set (i := 10) sclaw.nd rfl (.inl rfl) (pe_call G_law_fault.ok hr (by rfl) G_law_fault.m G_law_fault.kp G_law_fault.b .nil pass0 (pa_cons (pv 2) pa_nil)))
    (pss_cons (ps_if (PW.pt (pw_or (pt_cmpR op_isN (pv 9) pe_non (nomark _)) (pw_or (pt_val (pe_callB call_isi (by rfl) M.isinstance (by decide +kernel) (pa_cons (pe_ix ix_tup (pv 9) pe_int (fun _ _ => rfl)) (pa_cons (pe_bltn (v := .ty "bool") (by rfl) M.bool (by decide +kernel) rfl) pa_nil)))) (pw_or1 (pt_cmpR op_ne (pe_ix ix_tup (pv 9) pe_int (fun _ _ => rfl)) (pv 10) (nomark _))))))
      (pss_one (ps_ret pe_bl))
      pss_nil)
    (pss_cons (ps_if (PW.pt (pw_and (pt_cmpR op_eq (pv 10) (pe_un un_neg pe_int) (nomark _)) (pw_and1 (pt_cmpR op_ne (pe_join pe_str (pe_call G_law_words.ok hr (by rfl) G_law_words.m G_law_words.kp G_law_words.b .nil pass0 (pa_cons (pe_ix ix_tup (pv 9) pe_int (fun _ _ => rfl)) pa_nil))) (pv 8) (nomark _)))))
      (pss_one (ps_ret pe_bl))
      pss_nil)
    (pss_one (ps_ret (pe_and (pe_cmpR (op_eqD hr.units) (pe_call G_law_told.ok hr (by rfl) G_law_told.m G_law_told.kp G_law_told.b .nil pass0 (pa_cons pe_str pa_nil)) (pe_tup (pa_cons pe_int (pa_cons pe_non pa_nil))) (nomark _)) (pe_and (pe_cmpR (op_eqD hr.units) (pe_call G_law_told.ok hr (by rfl) G_law_told.m G_law_told.kp G_law_told.b .nil pass0 (pa_cons pe_str pa_nil)) (pe_tup (pa_cons pe_int (pa_cons pe_non pa_nil))) (nomark _)) (pe_one (pe_cmpR (op_eqD hr.units) (pe_call G_law_told.ok hr (by rfl) G_law_told.m G_law_told.kp G_law_told.b .nil pass0 (pa_cons pe_str pa_nil)) (pe_tup (pa_cons pe_int (pa_cons pe_non pa_nil))) (nomark _)))))))))))))))), ?_⟩
  have lgN : ∀ n : Int, n.natAbs < 2 ^ 60 → n.natAbs.log2 < 9000 := fun n h => log_small (n := 60) h (by decide) (by decide)
  have smL : ∀ n : Nat, n ≤ 1000000 → n ≤ sizeLine := fun n h => by rw [sizeLine_eq]; omega
  refine ⟨_, rfl, a, ns, rfl, hS, h63, fun H1 p s1 hp X1 _ => ?_⟩
  refine ⟨_, rfl, _, rfl, p, a, ns, _, rfl, X1, seqO hS hp s1, by decide, lgN _ (by decide), fun d0 H2 d00 d01 X2 b2 => ⟨_, _, rfl, rfl, ?_⟩⟩
  obtain ⟨n0, en0⟩ : ∃ n0 : Nat, 1 + d0 = (n0 : Int) := ⟨(1 + d0).toNat, by omega⟩
  have s2 := same_but s1 b2 hp
  refine ⟨p, a, ns, n0, 200, (by rw [← en0]; rfl), X2, seqO hS hp s2, by omega, by omega, by decide, by decide +kernel, fun H3 t f0 X3 b3 hf0 ho0 hl0 => ?_⟩
  have s3 := same_but s2 b3 hp
  have hl20 : f0.ws.length ≤ 20 := by omega
  refine ⟨t, f0, rfl, hf0, by have := ht_lt f0; omega, ho0, by omega, fun H4 l4 s4 n4 hl4 => ?_⟩
  have X4 := X3.same s4
  have l4p : l4 ≠ p := X3.ne n4
  have sm4 := s3.trans s4
  -- odd
  refine ⟨_, _, rfl, rfl, by decide, by decide, by decide +kernel, by decide +kernel, ?_⟩
  refine ⟨_, _, rfl, rfl, by decide, by decide, by decide +kernel, by decide +kernel, (by show 24 ≤ sizeLine; decide), fun o no => ?_⟩
  have So := same_new no (.lst (oddW.map V.str))
  have op := X4.ne no
  have X5 := X4.same So
  have ho5 : (upd H4 o (.lst (oddW.map V.str))) o = some (.lst (oddW.map V.str)) := upd_same
  have hl5 := So _ _ hl4
  have sm5 := sm4.trans So
  have g20 : GoodW 20 f0.ws := ⟨hl20, fun x hx => by
    obtain ⟨h1, h2⟩ := ws_plain f0 ho0 x hx
    exact ⟨h2, h1⟩⟩
  refine ⟨_, rfl, p, a, ns, _, rfl, X5, seqO hS hp sm5, by decide, lgN _ (by decide), fun d1 H6 d10 d11 X6 b6 => ?_⟩
  have ho6 := b6 _ _ op ho5
  have hl6 := b6 _ _ l4p hl5
  have sm6 := same_but sm5 b6 hp
  refine ⟨_, rfl, by omega, by omega, for_range (lo := 0) (n := d1.toNat) (fun k σ H' => ∃ (l : Addr) (ws : List Str) (y4 y5 y6 y7 : Option V), σ = [some (.ref a), some (.ref p), some (.ref l), some (.ref o), y4, y5, y6, y7, none, none, none] ∧ StX H' p a ns ∧ Same H H' ∧ l ≠ p ∧ H' l = some (.lst (ws.map V.str)) ∧ H' o = some (.lst (oddW.map V.str)) ∧ ws ≠ [] ∧ (k = 0 → GoodW 20 ws) ∧ (k = 1 → GoodW 61 ws) ∧ GoodW 184 ws)
    ⟨l4, f0.ws, none, none, none, none, rfl, X6, sm6, l4p, hl6, ho6, ws_ne f0, fun _ => g20, fun _ => g20.mono (by decide), g20.mono (by decide)⟩ (fun k σ H' hk hP => ?_) (fun σ H' hP => ?_)⟩
  · obtain ⟨l, ws, y4, y5, y6, y7, rfl, X, sm, lp, hl, ho, hne, i0, i1, i2⟩ := hP
    have kb : k < 2 := by omega
    obtain ⟨n, gk, kn⟩ : ∃ n, GoodW n ws ∧ ((k = 0 ∧ n = 20) ∨ (k = 1 ∧ n = 61)) := by
      rcases Nat.lt_or_ge k 1 with h | h
      · exact ⟨20, i0 (by omega), .inl ⟨by omega, rfl⟩⟩
      · exact ⟨61, i1 (by omega), .inr ⟨by omega, rfl⟩⟩
    have n61 : n ≤ 61 := by omega
    have lls : (ws.map V.str).length = ws.length := List.length_map _
    have hpos := List.length_pos_iff.mpr hne
    have lw := gk.1
    refine ⟨_, rfl, _, rfl, l, _, rfl, .inl (SqL.of hl), _, _, rfl, rfl, p, a, ns, _, rfl, X, seqO hS hp sm, (by rw [lls]; omega), lgN _ (by rw [lls]; omega), fun d2 H7 d20 d21 X7 b7 => ?_⟩
    rw [lls] at d21
    have sm7 := same_but sm b7 hp
    refine ⟨_, rfl, p, a, ns, _, rfl, X7, seqO hS hp sm7, by decide, lgN _ (by decide), fun d3 H8 d30 d31 X8 b8 => ?_⟩
    have sm8 := same_but sm7 b8 hp
    have ho8 := b8 _ _ op (b7 _ _ op ho)
    refine ⟨_, rfl, _, rfl, _, rfl, o, _, rfl, .inl (SqL.of ho8), p, a, ns, _, rfl, X8, seqO hS hp sm8, (by rw [List.length_map, oddW_len]; decide), lgN _ (by rw [List.length_map, oddW_len]; decide), fun d4 H9 d40 d41 X9 b9 => ?_⟩
    rw [List.length_map, oddW_len] at d41
    have hd4 : d4.toNat < oddW.length := by rw [oddW_len]; omega
    have g4 : oddW[d4.toNat]? = some oddW[d4.toNat] := List.getElem?_eq_getElem hd4
    obtain ⟨wl, w32⟩ := oddW_good _ (List.getElem_mem hd4)
    generalize oddW[d4.toNat] = wd at g4 wl w32
    have hio : atI (oddW.map V.str) d4 = some (.str wd) := by
      have e : d4 = ((d4.toNat : Nat) : Int) := by omega
      rw [e]; exact atI_nat (by rw [List.getElem?_map, g4]; rfl)
    have ho9 := b9 _ _ op ho8
    refine ⟨o, _, _, _, rfl, rfl, SqL.of ho9, hio, ?_⟩
    have sm9 := same_but sm8 b9 hp
    have hl9 := b9 _ _ lp (b8 _ _ lp (b7 _ _ lp hl))
    have cl := fun lo hi => cutG_len ws lo hi
    have e1 := cut_to_nat ws d20 (show d2 ≤ ws.length by omega)
    have e2 := cut_from_nat ws d20
    have e3 := cut_from_nat ws (show 0 ≤ d2 + 1 by omega)
    have gw := GoodW.one wl w32
    -- what every way leaves
    have give : ∀ H' l' ws' (y5 y6 y7 : Option V), Same H9 H' → l' ≠ p → H' l' = some (.lst (ws'.map V.str)) → ws' ≠ [] → GoodW (3 * n + 1) ws' → ∃ (l : Addr) (ws : List Str) (y4 y5' y6' y7' : Option V), [some (.ref a), some (.ref p), some (.ref l'), some (.ref o), some (V.int (0 + (k : Int))), y5, y6, y7, none, none, none] = [some (.ref a), some (.ref p), some (.ref l), some (.ref o), y4, y5', y6', y7', none, none, none] ∧ StX H' p a ns ∧ Same H H' ∧ l ≠ p ∧ H' l = some (.lst (ws.map V.str)) ∧ H' o = some (.lst (oddW.map V.str)) ∧ ws ≠ [] ∧ (k + 1 = 0 → GoodW 20 ws) ∧ (k + 1 = 1 → GoodW 61 ws) ∧ GoodW 184 ws :=
      fun H' l' ws' y5 y6 y7 s' lp' hl' hne' hg' => ⟨l', ws', _, _, _, _, rfl, X9.same s', sm9.trans s', lp', hl', s' _ _ ho9, hne', fun z => by omega, fun z => hg'.mono (by omega), hg'.mono (by omega)⟩
    have k5 : d3 = 0 ∨ d3 = 1 ∨ d3 = 2 ∨ d3 = 3 ∨ d3 = 4 := by omega
    have keep : GoodW (3 * n + 1) ws := gk.mono (by omega)
    rcases k5 with rfl | rfl | rfl | rfl | rfl
    · -- a word out
      refine ⟨_, rfl, rfl, _, rfl, iteT' (by decide) ⟨_, rfl, l, _, rfl, .inl (SqL.of hl9), _, _, rfl, rfl, _, rfl, ite2 (fun c => ?_) (fun c => ?_)⟩⟩
      · have h2 : 1 < ws.length := by have := of_decide_eq_true c; rw [lls] at this; omega
        refine ⟨_, rfl, _, rfl, _, rfl, l, _, rfl, SqL.of hl9, fun q1 n1 => ?_⟩
        have T1 := same_new n1 (.lst (cutV (ws.map V.str) none (some d2)))
        refine ⟨_, rfl, _, rfl, _, _, rfl, rfl, _, rfl, l, _, rfl, SqL.of (T1 _ _ hl9), fun q2 n2 => ?_⟩
        have T2 := same_new n2 (.lst (cutV (ws.map V.str) (some (d2 + 1)) none))
        refine ⟨q1, q2, _, _, rfl, rfl, T2 _ _ upd_same, upd_same, smL _ (by rw [cut_map, cut_map, List.length_map, List.length_map]; have := cl none (some d2); have := cl (some (d2 + 1)) none; omega), fun q3 n3 => ?_⟩
        refine ⟨_, rfl, rfl, _, rfl, iteF' (by decide) ⟨_, rfl, rfl, _, rfl, iteF' (by decide) ⟨_, rfl, rfl, _, rfl, iteF' (by decide) ⟨_, rfl, rfl, _, rfl, iteF' (by decide) (iteF ?_)⟩⟩⟩⟩
        refine give _ q3 (cutG ws none (some d2) ++ cutG ws (some (d2 + 1)) none) _ _ _ ((T1.trans T2).trans (same_new n3 _)) ((X9.same (T1.trans T2)).ne n3) (by rw [upd_same, cut_map, cut_map, List.map_append]) (fun z => ?_) (((gk.cut _ _).app (gk.cut _ _)).mono (by omega))
        have z2 := congrArg List.length z
        rw [e1, e3, List.length_append, List.length_take, List.length_drop, List.length_nil] at z2
        omega
      · refine ⟨_, rfl, rfl, _, rfl, iteF' (by decide) ⟨_, rfl, rfl, _, rfl, iteF' (by decide) ⟨_, rfl, rfl, _, rfl, iteF' (by decide) ⟨_, rfl, rfl, _, rfl, iteF' (by decide) (iteF ?_)⟩⟩⟩⟩
        exact give _ l ws _ _ _ (fun _ _ e => e) lp hl9 hne keep
    · -- a word twice
      refine ⟨_, rfl, rfl, _, rfl, iteF' (by decide) (iteF ⟨_, rfl, rfl, _, rfl, iteT' (by decide) ?_⟩)⟩
      refine ⟨_, rfl, _, rfl, _, rfl, l, _, rfl, SqL.of hl9, fun q1 n1 => ?_⟩
      have T1 := same_new n1 (.lst (cutV (ws.map V.str) none (some d2)))
      refine ⟨_, rfl, _, rfl, _, rfl, _, rfl, _, _, rfl, rfl, _, rfl, l, _, rfl, SqL.of (T1 _ _ hl9), fun q2 n2 => ?_⟩
      have T2 := same_new n2 (.lst (cutV (ws.map V.str) (some d2) (some (d2 + 1))))
      refine ⟨q1, q2, _, _, rfl, rfl, T2 _ _ upd_same, upd_same, smL _ (by rw [cut_map, cut_map, List.length_map, List.length_map]; have := cl none (some d2); have := cl (some d2) (some (d2 + 1)); omega), fun q3 n3 => ?_⟩
      have T3 := same_new n3 (.lst (cutV (ws.map V.str) none (some d2) ++ cutV (ws.map V.str) (some d2) (some (d2 + 1))))
      refine ⟨_, rfl, _, rfl, _, rfl, l, _, rfl, SqL.of ((T1.trans (T2.trans T3)) _ _ hl9), fun q4 n4 => ?_⟩
      have T4 := same_new n4 (.lst (cutV (ws.map V.str) (some d2) none))
      refine ⟨q3, q4, _, _, rfl, rfl, T4 _ _ upd_same, upd_same, smL _ (by rw [cut_map, cut_map, cut_map, List.length_append, List.length_map, List.length_map, List.length_map]; have := cl none (some d2); have := cl (some d2) (some (d2 + 1)); have := cl (some d2) none; omega), fun q5 n5 => ?_⟩
      refine ⟨_, rfl, rfl, _, rfl, iteF' (by decide) ⟨_, rfl, rfl, _, rfl, iteF' (by decide) ⟨_, rfl, rfl, _, rfl, iteF' (by decide) (iteF ?_)⟩⟩⟩
      refine give _ q5 (cutG ws none (some d2) ++ cutG ws (some d2) (some (d2 + 1)) ++ cutG ws (some d2) none) _ _ _ ((T1.trans (T2.trans (T3.trans T4))).trans (same_new n5 _)) ((X9.same (T1.trans (T2.trans (T3.trans T4)))).ne n5) (by rw [upd_same, cut_map, cut_map, cut_map, List.map_append, List.map_append]) (fun z => ?_) ((((gk.cut _ _).app (gk.cut _ _)).app (gk.cut _ _)).mono (by omega))
      have z2 := congrArg List.length z
      rw [e1, e2, List.length_append, List.length_append, List.length_take, List.length_drop, List.length_nil] at z2
      omega
    · -- a word put in
      refine ⟨_, rfl, rfl, _, rfl, iteF' (by decide) (iteF ⟨_, rfl, rfl, _, rfl, iteF' (by decide) ⟨_, rfl, rfl, _, rfl, iteT' (by decide) ?_⟩⟩)⟩
      refine ⟨_, rfl, _, rfl, _, rfl, l, _, rfl, SqL.of hl9, fun q1 n1 => ?_⟩
      have T1 := same_new n1 (.lst (cutV (ws.map V.str) none (some d2)))
      refine ⟨_, rfl, (by show 1 ≤ sizeLine; decide), fun q2 n2 => ?_⟩
      have T2 := same_new n2 (.lst [V.str wd])
      refine ⟨q1, q2, _, _, rfl, rfl, T2 _ _ upd_same, upd_same, smL _ (by rw [cut_map, List.length_map, List.length_singleton]; have := cl none (some d2); omega), fun q3 n3 => ?_⟩
      have T3 := same_new n3 (.lst (cutV (ws.map V.str) none (some d2) ++ [V.str wd]))
      refine ⟨_, rfl, _, rfl, _, rfl, l, _, rfl, SqL.of ((T1.trans (T2.trans T3)) _ _ hl9), fun q4 n4 => ?_⟩
      have T4 := same_new n4 (.lst (cutV (ws.map V.str) (some d2) none))
      refine ⟨q3, q4, _, _, rfl, rfl, T4 _ _ upd_same, upd_same, smL _ (by rw [cut_map, cut_map, List.length_append, List.length_map, List.length_map, List.length_singleton]; have := cl none (some d2); have := cl (some d2) none; omega), fun q5 n5 => ?_⟩
      refine ⟨_, rfl, rfl, _, rfl, iteF' (by decide) ⟨_, rfl, rfl, _, rfl, iteF' (by decide) (iteF ?_)⟩⟩
      refine give _ q5 (cutG ws none (some d2) ++ [wd] ++ cutG ws (some d2) none) _ _ _ ((T1.trans (T2.trans (T3.trans T4))).trans (same_new n5 _)) ((X9.same (T1.trans (T2.trans (T3.trans T4)))).ne n5) (by rw [upd_same, cut_map, cut_map, List.map_append, List.map_append]; rfl) (fun z => ?_) ((((gk.cut _ _).app gw).app (gk.cut _ _)).mono (by omega))
      have z2 := congrArg List.length z
      rw [List.length_append, List.length_append, List.length_singleton, List.length_nil] at z2
      omega
    · -- a word for another
      refine ⟨_, rfl, rfl, _, rfl, iteF' (by decide) (iteF ⟨_, rfl, rfl, _, rfl, iteF' (by decide) ⟨_, rfl, rfl, _, rfl, iteF' (by decide) ⟨_, rfl, rfl, _, rfl, iteT' (by decide) ?_⟩⟩⟩)⟩
      refine ⟨_, rfl, _, rfl, _, rfl, l, _, rfl, SqL.of hl9, fun q1 n1 => ?_⟩
      have T1 := same_new n1 (.lst (cutV (ws.map V.str) none (some d2)))
      refine ⟨_, rfl, (by show 1 ≤ sizeLine; decide), fun q2 n2 => ?_⟩
      have T2 := same_new n2 (.lst [V.str wd])
      refine ⟨q1, q2, _, _, rfl, rfl, T2 _ _ upd_same, upd_same, smL _ (by rw [cut_map, List.length_map, List.length_singleton]; have := cl none (some d2); omega), fun q3 n3 => ?_⟩
      have T3 := same_new n3 (.lst (cutV (ws.map V.str) none (some d2) ++ [V.str wd]))
      refine ⟨_, rfl, _, rfl, _, _, rfl, rfl, _, rfl, l, _, rfl, SqL.of ((T1.trans (T2.trans T3)) _ _ hl9), fun q4 n4 => ?_⟩
      have T4 := same_new n4 (.lst (cutV (ws.map V.str) (some (d2 + 1)) none))
      refine ⟨q3, q4, _, _, rfl, rfl, T4 _ _ upd_same, upd_same, smL _ (by rw [cut_map, cut_map, List.length_append, List.length_map, List.length_map, List.length_singleton]; have := cl none (some d2); have := cl (some (d2 + 1)) none; omega), fun q5 n5 => ?_⟩
      refine ⟨_, rfl, rfl, _, rfl, iteF' (by decide) (iteF ?_)⟩
      refine give _ q5 (cutG ws none (some d2) ++ [wd] ++ cutG ws (some (d2 + 1)) none) _ _ _ ((T1.trans (T2.trans (T3.trans T4))).trans (same_new n5 _)) ((X9.same (T1.trans (T2.trans (T3.trans T4)))).ne n5) (by rw [upd_same, cut_map, cut_map, List.map_append, List.map_append]; rfl) (fun z => ?_) ((((gk.cut _ _).app gw).app (gk.cut _ _)).mono (by omega))
      have z2 := congrArg List.length z
      rw [List.length_append, List.length_append, List.length_singleton, List.length_nil] at z2
      omega
    · -- the text cut
      refine ⟨_, rfl, rfl, _, rfl, iteF' (by decide) (iteF ⟨_, rfl, rfl, _, rfl, iteF' (by decide) ⟨_, rfl, rfl, _, rfl, iteF' (by decide) ⟨_, rfl, rfl, _, rfl, iteF' (by decide) ?_⟩⟩⟩)⟩
      refine ⟨_, rfl, rfl, _, rfl, iteT' (by decide) ⟨_, rfl, _, _, rfl, rfl, _, rfl, ite2 (fun c => ?_) (fun c => ?_)⟩⟩
      · have h2 : 0 < d2 := of_decide_eq_true c
        refine ⟨_, rfl, _, rfl, _, rfl, l, _, rfl, SqL.of hl9, fun q1 n1 => ?_⟩
        have T1 := same_new n1 (.lst (cutV (ws.map V.str) none (some d2)))
        refine give _ q1 (cutG ws none (some d2)) _ _ _ T1 (X9.ne n1) (by rw [upd_same, cut_map]) (fun z => ?_) ((gk.cut _ _).mono (by omega))
        have z2 := congrArg List.length z
        rw [e1, List.length_take, List.length_nil] at z2
        omega
      · exact give _ l ws _ _ _ (fun _ _ e => e) lp hl9 hne keep
  obtain ⟨l, ws, y4, y5, y6, y7, rfl, X, sm, lp, hl, ho, hne, _, _, gk⟩ := hP
  obtain ⟨tl1, tl2⟩ := wtext_len gk
  -- text
  refine ⟨⟨_, rfl⟩, _, rfl, " ", l, ws, rfl, rfl, .inl (SqL.of hl), (by rw [show (" " : Str).length = 1 by decide +kernel]; omega), ?_⟩
  have hback : Txt.split (Txt.join " " ws) " " = ws := sep_blank.back hne fun q hq => (gk.2 q hq).2
  have lws := gk.1
  have hx : ∀ x ∈ ws, x.length ≤ 10000000 := fun x hx => Nat.le_trans (gk.2 x hx).1 (by decide)
  -- told
  have eq0 : ∀ i : Int, PyData.eqv (.tuple [.int i, .none]) (.tuple [.int i, .none]) = true := fun i => SeqAt.eqv_refl _ (by have := shapedN i; unfold SeqAt.shaped at this; exact ((Bool.and_eq_true _ _).mp this).1)
  refine ⟨_, rfl, _, rfl, by omega, ?_⟩
  rw [hback]
  refine ⟨fun hb Ha q0 p0 g sa hq0 hg hw hok => ?_, fun k hb Ha q0 sa hq0 => ?_⟩
  · refine ⟨_, rfl, l, ws, rfl, sa _ _ hl, by omega, hx, fun Hb sb => ?_⟩
    have ed : dueI ws = -1 := by unfold dueI; rw [hb]
    rw [ed]
    have sab := sa.trans sb
    have hqb := sb _ _ hq0
    have hgb := hg.same sb
    refine ⟨_, rfl, rfl, _, rfl, iteF' rfl ?_⟩
    refine ⟨_, rfl, q0, _, _, _, rfl, rfl, SqT.of hqb, atI_nat (j := 0) rfl, _, _, _, _, _, rfl, .ty "bool", .base (.int _), kit_ty (show kitB "int" "bool" = some false by decide +kernel), _, rfl, iteF' rfl ?_⟩
    refine ⟨_, rfl, q0, _, _, _, rfl, rfl, SqT.of hqb, atI_nat (j := 0) rfl, _, rfl, rfl, _, rfl, iteF' (by decide) ?_⟩
    refine ⟨_, rfl, _, rfl, rfl, _, rfl, iteT' (by decide) ?_⟩
    refine ⟨⟨_, rfl⟩, _, rfl, q0, _, 1, _, rfl, rfl, SqT.of hqb, atI_nat (j := 1) rfl, p0, g, rfl, hgb, by have := ht_lt g; rw [hw] at this; omega, hok, by rw [hw]; omega, fun Hc q1 sc n1 hq1 => ?_⟩
    rw [hw] at hq1
    refine ⟨" ", q1, ws, rfl, rfl, .inl (SqL.of hq1), (by rw [show (" " : Str).length = 1 by decide +kernel]; omega), _, rfl, rfl, _, rfl, iteF' (by rw [decide_eq_true rfl]; rfl) ?_⟩
    have sm3 := (sm.trans sab).trans sc
    refine ⟨"", rfl, (by decide +kernel), fun e => (by rw [fault0] at e; cases e), fun k0 e0 Hd r0 sd hr0 => ?_⟩
    rw [fault0] at e0
    cases e0
    refine ⟨(by show 2 ≤ sizeLine; decide), fun r1 m1 => ?_⟩
    have V1 := same_new m1 (.tup [V.int 0, .non])
    refine ⟨_, _, dpN (SqT.of (V1 _ _ hr0)), dpN (SqT.of upd_same), shapedN _, shapedN _, _, rfl, ?_⟩
    refine iteT' (eq0 _) ?_
    refine ⟨"1 ", rfl, (by decide +kernel), fun e => (by rw [fault1] at e; cases e), fun k1 e1 He r2 se hr2 => ?_⟩
    rw [fault1] at e1
    cases e1
    refine ⟨(by show 2 ≤ sizeLine; decide), fun r3 m3 => ?_⟩
    have V2 := same_new m3 (.tup [V.int 1, .non])
    refine ⟨_, _, dpN (SqT.of (V2 _ _ hr2)), dpN (SqT.of upd_same), shapedN _, shapedN _, _, rfl, ?_⟩
    refine iteT' (eq0 _) ?_
    refine ⟨" 1", rfl, (by decide +kernel), fun e => (by rw [fault2] at e; cases e), fun k2 e2 Hf r4 sf hr4 => ?_⟩
    rw [fault2] at e2
    cases e2
    refine ⟨(by show 2 ≤ sizeLine; decide), fun r5 m5 => ?_⟩
    have V3 := same_new m5 (.tup [V.int 0, .non])
    refine ⟨_, _, dpN (SqT.of (V3 _ _ hr4)), dpN (SqT.of upd_same), shapedN _, shapedN _, ?_⟩
    rw [show PyData.eqv (.tuple [.int ((0 : Nat) : Int), .none]) (.tuple [.int 0, .none]) = true from eq0 _]
    exact fin _
  · refine ⟨_, rfl, l, ws, rfl, sa _ _ hl, by omega, hx, fun Hb sb => ?_⟩
    have ed : dueI ws = (k : Int) := by unfold dueI; rw [hb]
    rw [ed]
    have sab := sa.trans sb
    have hqb := sb _ _ hq0
    refine ⟨_, rfl, rfl, _, rfl, iteF' rfl ?_⟩
    refine ⟨_, rfl, q0, _, _, _, rfl, rfl, SqT.of hqb, atI_nat (j := 0) rfl, _, _, _, _, _, rfl, .ty "bool", .base (.int _), kit_ty (show kitB "int" "bool" = some false by decide +kernel), _, rfl, iteF' rfl ?_⟩
    refine ⟨_, rfl, q0, _, _, _, rfl, rfl, SqT.of hqb, atI_nat (j := 0) rfl, _, rfl, rfl, _, rfl, iteF' (by rw [decide_eq_true rfl]; rfl) ?_⟩
    refine ⟨_, rfl, _, rfl, rfl, _, rfl, iteF' (decide_eq_false fun z => by have := V.int.inj z; omega) (iteF ?_)⟩
    have sm3 := sm.trans sab
    have Hc := Hb
    refine ⟨"", rfl, (by decide +kernel), fun e => (by rw [fault0] at e; cases e), fun k0 e0 Hd r0 sd hr0 => ?_⟩
    rw [fault0] at e0
    cases e0
    refine ⟨(by show 2 ≤ sizeLine; decide), fun r1 m1 => ?_⟩
    have V1 := same_new m1 (.tup [V.int 0, .non])
    refine ⟨_, _, dpN (SqT.of (V1 _ _ hr0)), dpN (SqT.of upd_same), shapedN _, shapedN _, _, rfl, ?_⟩
    refine iteT' (eq0 _) ?_
    refine ⟨"1 ", rfl, (by decide +kernel), fun e => (by rw [fault1] at e; cases e), fun k1 e1 He r2 se hr2 => ?_⟩
    rw [fault1] at e1
    cases e1
    refine ⟨(by show 2 ≤ sizeLine; decide), fun r3 m3 => ?_⟩
    have V2 := same_new m3 (.tup [V.int 1, .non])
    refine ⟨_, _, dpN (SqT.of (V2 _ _ hr2)), dpN (SqT.of upd_same), shapedN _, shapedN _, _, rfl, ?_⟩
    refine iteT' (eq0 _) ?_
    refine ⟨" 1", rfl, (by decide +kernel), fun e => (by rw [fault2] at e; cases e), fun k2 e2 Hf r4 sf hr4 => ?_⟩
    rw [fault2] at e2
    cases e2
    refine ⟨(by show 2 ≤ sizeLine; decide), fun r5 m5 => ?_⟩
    have V3 := same_new m5 (.tup [V.int 0, .non])
    refine ⟨_, _, dpN (SqT.of (V3 _ _ hr4)), dpN (SqT.of upd_same), shapedN _, shapedN _, ?_⟩
    rw [show PyData.eqv (.tuple [.int ((0 : Nat) : Int), .none]) (.tuple [.int 0, .none]) = true from eq0 _]
    exact fin _
end
end KJ

namespace KJ
open PySem PySem.Spec PyProof.Rows L2 KG
set_option maxHeartbeats 4000000 in
theorem all_mk {l : PySem.W.OpenLaw} {w : World} {K : PySem.W.Frag} {h : Heap} {mg : Str → Option Value} {fa aD1 f1 f2 f3 f4 f5 f6 f7 f8 f9 f10 f11 eC1 eI1 eW1 eN1 : Addr} (X : K.In h) (G : h.Ns mainGlobals mg) (hfa : mg "law" = some (.ref fa))
    {od1 an1 od2 an2 od3 an3 od4 an4 od5 an5 od6 an6 od7 an7 od8 an8 od9 an9 od10 an10 od11 an11 od12 an12 : Option Addr} {sl1 sl2 sl3 sl4 sl5 sl6 sl7 sl8 sl9 sl10 sl11 sl12 : Array (Option Value)} {oc1 kV1 dc1 pm1 cd1 ct1 oc2 kV2 dc2 pm2 cd2 ct2 oc3 kV3 dc3 pm3 cd3 ct3 oc4 kV4 dc4 pm4 cd4 ct4 oc5 kV5 dc5 pm5 cd5 ct5 oc6 kV6 dc6 pm6 cd6 ct6 oc7 kV7 dc7 pm7 cd7 ct7 oc8 kV8 dc8 pm8 cd8 ct8 oc9 kV9 dc9 pm9 cd9 ct9 oc10 kV10 dc10 pm10 cd10 ct10 oc11 kV11 dc11 pm11 cd11 ct11 oc12 kV12 dc12 pm12 cd12 ct12 : Value}
    {nm1 q1 : Str} {bs1 sub1 : List Value} {sn1 : List Str} {ab1 : Bool} {col1 : Option Bool} {dd1 : Option Addr} {m0_1 m1_1 m2_1 m3_1 m5_1 : Option Value}
    {tI1 : Tok}
    {nD1 : Nat} {kD1_0 vD1_0 kD1_1 vD1_1 kD1_2 vD1_2 kD1_3 vD1_3 kD1_4 vD1_4 kD1_5 vD1_5 : Tok}
    (a1 : PySem.W.nsIn K mainGlobals "integer_of" = some (some (.ref f1))) (l1 : K.lookup f1 = some ⟨oc1, od1, .func (PySem.W.fnOf "integer_of" "integer_of" (defArgs sinteger_of) (defBody sinteger_of) (defScope sinteger_of) .none kV1 dc1 pm1 an1 cd1 ct1), sl1⟩) (c1 : PySem.W.codeIn K cd1 "integer_of" = true) (k1 : PySem.W.keepIn K (.ref f1) = true)
    (a2 : PySem.W.nsIn K mainGlobals "_fault" = some (some (.ref f2))) (l2 : K.lookup f2 = some ⟨oc2, od2, .func (PySem.W.fnOf "_fault" "_fault" (defArgs s_fault) (defBody s_fault) (defScope s_fault) .none kV2 dc2 pm2 an2 cd2 ct2), sl2⟩) (c2 : PySem.W.codeIn K cd2 "_fault" = true) (k2 : PySem.W.keepIn K (.ref f2) = true)
    (a3 : PySem.W.nsIn K mainGlobals "read_formula" = some (some (.ref f3))) (l3 : K.lookup f3 = some ⟨oc3, od3, .func (PySem.W.fnOf "read_formula" "read_formula" (defArgs sread_formula) (defBody sread_formula) (defScope sread_formula) .none kV3 dc3 pm3 an3 cd3 ct3), sl3⟩) (c3 : PySem.W.codeIn K cd3 "read_formula" = true) (k3 : PySem.W.keepIn K (.ref f3) = true)
    (a4 : PySem.W.nsIn K mainGlobals "_law_state" = some (some (.ref f4))) (l4 : K.lookup f4 = some ⟨oc4, od4, .func (PySem.W.fnOf "_law_state" "_law_state" (defArgs s_law_state) (defBody s_law_state) (defScope s_law_state) .none kV4 dc4 pm4 an4 cd4 ct4), sl4⟩) (c4 : PySem.W.codeIn K cd4 "_law_state" = true) (k4 : PySem.W.keepIn K (.ref f4) = true)
    (a5 : PySem.W.nsIn K mainGlobals "_law_take" = some (some (.ref f5))) (l5 : K.lookup f5 = some ⟨oc5, od5, .func (PySem.W.fnOf "_law_take" "_law_take" (defArgs s_law_take) (defBody s_law_take) (defScope s_law_take) .none kV5 dc5 pm5 an5 cd5 ct5), sl5⟩) (c5 : PySem.W.codeIn K cd5 "_law_take" = true) (k5 : PySem.W.keepIn K (.ref f5) = true)
    (a6 : PySem.W.nsIn K mainGlobals "_law_formula" = some (some (.ref f6))) (l6 : K.lookup f6 = some ⟨oc6, od6, .func (PySem.W.fnOf "_law_formula" "_law_formula" (defArgs s_law_formula) (defBody s_law_formula) (defScope s_law_formula) .none kV6 dc6 pm6 an6 cd6 ct6), sl6⟩) (c6 : PySem.W.codeIn K cd6 "_law_formula" = true) (k6 : PySem.W.keepIn K (.ref f6) = true)
    (a7 : PySem.W.nsIn K mainGlobals "_law_words" = some (some (.ref f7))) (l7 : K.lookup f7 = some ⟨oc7, od7, .func (PySem.W.fnOf "_law_words" "_law_words" (defArgs s_law_words) (defBody s_law_words) (defScope s_law_words) .none kV7 dc7 pm7 an7 cd7 ct7), sl7⟩) (c7 : PySem.W.codeIn K cd7 "_law_words" = true) (k7 : PySem.W.keepIn K (.ref f7) = true)
    (a8 : PySem.W.nsIn K mainGlobals "_law_is_whole" = some (some (.ref f8))) (l8 : K.lookup f8 = some ⟨oc8, od8, .func (PySem.W.fnOf "_law_is_whole" "_law_is_whole" (defArgs s_law_is_whole) (defBody s_law_is_whole) (defScope s_law_is_whole) .none kV8 dc8 pm8 an8 cd8 ct8), sl8⟩) (c8 : PySem.W.codeIn K cd8 "_law_is_whole" = true) (k8 : PySem.W.keepIn K (.ref f8) = true)
    (a9 : PySem.W.nsIn K mainGlobals "_law_fault" = some (some (.ref f9))) (l9 : K.lookup f9 = some ⟨oc9, od9, .func (PySem.W.fnOf "_law_fault" "_law_fault" (defArgs s_law_fault) (defBody s_law_fault) (defScope s_law_fault) .none kV9 dc9 pm9 an9 cd9 ct9), sl9⟩) (c9 : PySem.W.codeIn K cd9 "_law_fault" = true) (k9 : PySem.W.keepIn K (.ref f9) = true)
    (a10 : PySem.W.nsIn K mainGlobals "_law_told" = some (some (.ref f10))) (l10 : K.lookup f10 = some ⟨oc10, od10, .func (PySem.W.fnOf "_law_told" "_law_told" (defArgs s_law_told) (defBody s_law_told) (defScope s_law_told) .none kV10 dc10 pm10 an10 cd10 ct10), sl10⟩) (c10 : PySem.W.codeIn K cd10 "_law_told" = true) (k10 : PySem.W.keepIn K (.ref f10) = true)
    (a11 : PySem.W.nsIn K mainGlobals "law" = some (some (.ref f11))) (l11 : K.lookup f11 = some ⟨oc11, od11, .func (PySem.W.fnOf "law" "law" (defArgs slaw) (defBody slaw) (defScope slaw) .none kV11 dc11 pm11 an11 cd11 ct11), sl11⟩) (c11 : PySem.W.codeIn K cd11 "law" = true) (k11 : PySem.W.keepIn K (.ref f11) = true)
    (x1_1 : PySem.W.nsIn K mainGlobals "BadText" = some (some (.ref eC1))) (x1_2 : PySem.W.nsIn K mainGlobals "WorkError" = some (some (.ref eW1)))
    (x1_3 : K.lookup eC1 = some (excClassObj nm1 q1 eC1 eN1 bs1 [.ref eW1, .type "ValueError", .type "Exception", .type "BaseException", .type "object"] true sn1 sub1 ab1 col1 dd1 m0_1 m1_1 m2_1 m3_1 m5_1 "ValueError.__new__"))
    (x1_4 : PySem.W.findIn K (.ref eC1) "__setattr__" = some (some (.builtin "object.__setattr__"))) (x1_5 : PySem.W.findIn K (.ref eC1) "__getattribute__" = some (some (.builtin "BaseException.__getattribute__"))) (x1_6 : PySem.W.findIn K (.ref eC1) "__getattr__" = some none) (x1_7 : PySem.W.findIn K (.ref eC1) "place" = some none) (x1_8 : PySem.W.findIn K (.ref eC1) "__init__" = some (some (.ref eI1))) (x1_9 : PySem.W.typeIn K (.ref eI1) = some (.type "function")) (x1_10 : PySem.W.keepIn K (.ref eC1) = true) (x1_11 : PySem.W.subIn K (.ref eC1) (.type "BaseException") = some true) (x1_12 : PySem.W.typeIn K (.ref eC1) = some (.type "type")) (x1_13 : PySem.W.hasDictIn K eC1 = true) (x1_14 : PySem.W.isClsIn K eC1 = true) (x1_15 : PySem.W.subIn K (.ref eC1) (.ref eC1) = some true) (x1_16 : PySem.W.subIn K (.ref eC1) (.ref eW1) = some true) (x1_17 : PySem.W.typeIn K (.ref eW1) = some (.type "type")) (x1_18 : PySem.W.isClsIn K eW1 = true) (x1_19 : PySem.W.subIn K (.ref eC1) (.type "ValueError") = some true) (x1_20 : PySem.W.findIn K (.ref eC1) "__class__" = some (some (.builtin "object.__class__"))) (x1_21 : PySem.W.specialIn K (.builtin "object.__class__") "__get__" = some (some (.builtin "getset_descriptor.__get__"))) (x1_22 : PySem.W.takesIn K (.builtin "object.__class__") = some true) (x1_23 : PySem.W.mroIn K eC1 (.type "object") = some true)
    (l12 : K.lookup eI1 = some ⟨oc12, od12, .func (PySem.W.fnOf "__init__" "BadText.__init__" (defArgs s_bt) (defBody s_bt) (defScope s_bt) .none kV12 dc12 pm12 an12 cd12 ct12), sl12⟩) (c12 : PySem.W.codeIn K cd12 "BadText.__init__" = true) (k12 : PySem.W.keepIn K (.ref eI1) = true)
    (z1 : PySem.W.nsIn K mainGlobals "ValueError" = some none)
    (z2 : PySem.W.nsIn K mainGlobals "int" = some none)
    (z3 : PySem.W.nsIn K mainGlobals "reversed" = some none)
    (z4 : PySem.W.nsIn K mainGlobals "enumerate" = some none)
    (z5 : PySem.W.nsIn K mainGlobals "range" = some none)
    (z6 : PySem.W.nsIn K mainGlobals "len" = some none)
    (z7 : PySem.W.nsIn K mainGlobals "abs" = some none)
    (z8 : PySem.W.nsIn K mainGlobals "isinstance" = some none)
    (z9 : PySem.W.nsIn K mainGlobals "bool" = some none)
    (z10 : PySem.W.nsIn K mainGlobals "str" = some none)
    (z11 : PySem.W.nsIn K mainGlobals "all" = some none)
    (i1 : PySem.W.nsIn K mainGlobals "MOST_DIGITS" = some (some (.int 30 tI1)))
    (d1_1 : PySem.W.nsIn K mainGlobals "PARTS" = some (some (.ref aD1))) (d1_2 : K.lookup aD1 = some ⟨.type "dict", none, .dict #[⟨PyData.keyHash w.params "add", .str "add" kD1_0, .int 2 vD1_0⟩, ⟨PyData.keyHash w.params "sub", .str "sub" kD1_1, .int 2 vD1_1⟩, ⟨PyData.keyHash w.params "mul", .str "mul" kD1_2, .int 2 vD1_2⟩, ⟨PyData.keyHash w.params "div", .str "div" kD1_3, .int 2 vD1_3⟩, ⟨PyData.keyHash w.params "neg", .str "neg" kD1_4, .int 1 vD1_4⟩, ⟨PyData.keyHash w.params "root", .str "root" kD1_5, .int 1 vD1_5⟩] nD1, #[]⟩) (d1_3 : (aD1 == sysModules) = false)
    : ∃ fd : FuncData, (∀ (s : Shared) (v : Value), BindsTo s fd ⟨[v], []⟩ [("script", v)]) ∧ ∀ base : Heap, K.In base → base.Ns mainGlobals mg → FnOk l.prog w K mg base CX0 210 fa fd ["script"] (splaw K) := by
  have e := hfa.symm.trans (PySem.W.mg_of X G a11)
  cases e
  have F1 := fun_mk (st := sinteger_of) l1 c1 k1
  have F2 := fun_mk (st := s_fault) l2 c2 k2
  have F3 := fun_mk (st := sread_formula) l3 c3 k3
  have F4 := fun_mk (st := s_law_state) l4 c4 k4
  have F5 := fun_mk (st := s_law_take) l5 c5 k5
  have F6 := fun_mk (st := s_law_formula) l6 c6 k6
  have F7 := fun_mk (st := s_law_words) l7 c7 k7
  have F8 := fun_mk (st := s_law_is_whole) l8 c8 k8
  have F9 := fun_mk (st := s_law_fault) l9 c9 k9
  have F10 := fun_mk (st := s_law_told) l10 c10 k10
  have F11 := fun_mk (st := slaw) l11 c11 k11
  have F12 := fun_mk (st := s_bt) l12 c12 k12
  have b1 := F1.binds (ps := ["word"]) fun _ _ _ _ _ _ us hl => match us, hl with | [_], _ => rfl
  have b2 := F2.binds (ps := ["words"]) fun _ _ _ _ _ _ us hl => match us, hl with | [_], _ => rfl
  have b3 := F3.binds (ps := ["text"]) fun _ _ _ _ _ _ us hl => match us, hl with | [_], _ => rfl
  have b4 := F4.binds (ps := ["script"]) fun _ _ _ _ _ _ us hl => match us, hl with | [_], _ => rfl
  have b5 := F5.binds (ps := ["state", "many"]) fun _ _ _ _ _ _ us hl => match us, hl with | [_, _], _ => rfl
  have b6 := F6.binds (ps := ["state", "size", "most"]) fun _ _ _ _ _ _ us hl => match us, hl with | [_, _, _], _ => rfl
  have b7 := F7.binds (ps := ["formula"]) fun _ _ _ _ _ _ us hl => match us, hl with | [_], _ => rfl
  have b8 := F8.binds (ps := ["word"]) fun _ _ _ _ _ _ us hl => match us, hl with | [_], _ => rfl
  have b9 := F9.binds (ps := ["words"]) fun _ _ _ _ _ _ us hl => match us, hl with | [_], _ => rfl
  have b10 := F10.binds (ps := ["text"]) fun _ _ _ _ _ _ us hl => match us, hl with | [_], _ => rfl
  have b12 := F12.binds (ps := ["self", "place"]) fun _ _ _ _ _ _ us hl => match us, hl with | [_, _], _ => rfl
  have T1 := own_mk X G x1_1 x1_3 x1_4 x1_5 x1_6 x1_7 x1_8 x1_9 x1_10 x1_11 x1_12 x1_13 x1_14 x1_15 x1_16 x1_17 x1_18 x1_19 x1_20 x1_21 x1_22 x1_23
  have W1 := PySem.W.mg_of X G x1_2
  have gI1 := PySem.W.mg_of X G i1
  have gD1 := PySem.W.mg_of X G d1_1
  have sD1 : KDi K w aD1 partsD := ⟨_, _, d1_2, (.cons (.cons (.cons (.cons (.cons (.cons .nil)))))), d1_3⟩
  have M : Names mg := { ValueError := PySem.W.mg_none_of X G z1, int := PySem.W.mg_none_of X G z2, reversed := PySem.W.mg_none_of X G z3, enumerate := PySem.W.mg_none_of X G z4, range := PySem.W.mg_none_of X G z5, len := PySem.W.mg_none_of X G z6, abs := PySem.W.mg_none_of X G z7, isinstance := PySem.W.mg_none_of X G z8, bool := PySem.W.mg_none_of X G z9, str := PySem.W.mg_none_of X G z10, all := PySem.W.mg_none_of X G z11 }
  refine ⟨PySem.W.fnOf "law" "law" (defArgs slaw) (defBody slaw) (defScope slaw) .none kV11 dc11 pm11 an11 cd11 ct11, fun s v => .of_eq rfl, fun base _ _ => ?_⟩
  have C_law_state_209 : Cal l.prog w K mg base 209 "_law_state" ["script"] (sp_law_state K) := ⟨f4, _, ok_law_state F4 M, b4, PySem.W.mg_of X G a4, k4⟩
  have C_law_take_209 : Cal l.prog w K mg base 209 "_law_take" ["state", "many"] (sp_law_take K) := ⟨f5, _, ok_law_take F5 M, b5, PySem.W.mg_of X G a5, k5⟩
  have C_law_take_187 : Cal l.prog w K mg base 187 "_law_take" ["state", "many"] (sp_law_take K) := ⟨f5, _, ok_law_take F5 M, b5, PySem.W.mg_of X G a5, k5⟩
  have C_law_formula_209 : Cal l.prog w K mg base 209 "_law_formula" ["state", "size", "most"] (sp_law_formula K 22) := ⟨f6, _, ok_law_formula (k := 187) F6 M C_law_take_187 b6 (PySem.W.mg_of X G a6) k6 22, b6, PySem.W.mg_of X G a6, k6⟩
  have C_law_words_209 : Cal l.prog w K mg base 209 "_law_words" ["formula"] (sp_law_words K 200) := ⟨f7, _, ok_law_words (k := 9) F7 M b7 (PySem.W.mg_of X G a7) k7 200, b7, PySem.W.mg_of X G a7, k7⟩
  have C_law_is_whole_208 : Cal l.prog w K mg base 208 "_law_is_whole" ["word"] (sp_law_is_whole) := ⟨f8, _, ok_law_is_whole F8 M, b8, PySem.W.mg_of X G a8, k8⟩
  have C_law_fault_209 : Cal l.prog w K mg base 209 "_law_fault" ["words"] (sp_law_fault) := ⟨f9, _, ok_law_fault F9 M C_law_is_whole_208, b9, PySem.W.mg_of X G a9, k9⟩
  have Cinteger_of_206 : Cal l.prog w K mg base 206 "integer_of" ["word"] (sp_integer_of) := ⟨f1, _, ok_integer_of F1 M gI1, b1, PySem.W.mg_of X G a1, k1⟩
  have C_fault_207 : Cal l.prog w K mg base 207 "_fault" ["words"] (sp_fault) := ⟨f2, _, ok_fault F2 M gD1 sD1 Cinteger_of_206, b2, PySem.W.mg_of X G a2, k2⟩
  have Gc := ok_read_formula (P := l.prog) (w := w) (base := base) F3 M gD1 sD1 T1 (ok_bt (k := 205) F12) b12 C_fault_207
  have C_law_told_209 : Cal l.prog w K mg base 209 "_law_told" ["text"] (sp_law_told) := ⟨f10, _, ok_law_told F10 M T1 W1 Gc (PySem.W.mg_of X G a3) k3 b3, b10, PySem.W.mg_of X G a10, k10⟩
  exact oklaw F11 M C_law_state_209 C_law_take_209 C_law_formula_209 C_law_words_209 C_law_fault_209 C_law_told_209
end KJ
open PySem PySem.W PyProof.Rows
set_option maxRecDepth 100000 in
set_option maxHeartbeats 0 in
theorem PySem.Challenge.cw_compasswork_k11_faults_of_formula_texts_holds : PySem.Challenge.rw_compasswork_k11_faults_of_formula_texts.Holds := by
  w_on; o_law; k_head; (case hw => w_witness2)
  k_fill
  refine L2.walk_of (l := PySem.Challenge.rw_compasswork_k11_faults_of_formula_texts) (n := 63) (k := 210) (x := "script") (CX := fun _ => L2.CX0) (sp := fun w => KJ.splaw _) rfl (by decide) rfl ⟨rfl, by decide, by decide⟩ (fun w h Y => PySem.W.kIn_of Y) ?F (fun _ _ a ns hl _ hS => ⟨a, ns, rfl, hS, hl, fun _ => rfl⟩) (fun _ _ _ _ _ h => h)
  case F =>
    intro w mg fa h KX G hmg
    refine' KJ.all_mk KX G hmg ?a1 ?l1 ?c1 ?k1 ?a2 ?l2 ?c2 ?k2 ?a3 ?l3 ?c3 ?k3 ?a4 ?l4 ?c4 ?k4 ?a5 ?l5 ?c5 ?k5 ?a6 ?l6 ?c6 ?k6 ?a7 ?l7 ?c7 ?k7 ?a8 ?l8 ?c8 ?k8 ?a9 ?l9 ?c9 ?k9 ?a10 ?l10 ?c10 ?k10 ?a11 ?l11 ?c11 ?k11 ?x1_1 ?x1_2 ?x1_3 ?x1_4 ?x1_5 ?x1_6 ?x1_7 ?x1_8 ?x1_9 ?x1_10 ?x1_11 ?x1_12 ?x1_13 ?x1_14 ?x1_15 ?x1_16 ?x1_17 ?x1_18 ?x1_19 ?x1_20 ?x1_21 ?x1_22 ?x1_23 ?l12 ?c12 ?k12 ?z1 ?z2 ?z3 ?z4 ?z5 ?z6 ?z7 ?z8 ?z9 ?z10 ?z11 ?i1 ?d1_1 ?d1_2 ?d1_3
    (case a1 => first | k_is | rfl)
    (case l1 => first | k_is | rfl)
    (case c1 => first | k_is | rfl)
    (case k1 => first | k_is | rfl)
    (case a2 => first | k_is | rfl)
    (case l2 => first | k_is | rfl)
    (case c2 => first | k_is | rfl)
    (case k2 => first | k_is | rfl)
    (case a3 => first | k_is | rfl)
    (case l3 => first | k_is | rfl)
    (case c3 => first | k_is | rfl)
    (case k3 => first | k_is | rfl)
    (case a4 => first | k_is | rfl)
    (case l4 => first | k_is | rfl)
    (case c4 => first | k_is | rfl)
    (case k4 => first | k_is | rfl)
    (case a5 => first | k_is | rfl)
    (case l5 => first | k_is | rfl)
    (case c5 => first | k_is | rfl)
    (case k5 => first | k_is | rfl)
    (case a6 => first | k_is | rfl)
    (case l6 => first | k_is | rfl)
    (case c6 => first | k_is | rfl)
    (case k6 => first | k_is | rfl)
    (case a7 => first | k_is | rfl)
    (case l7 => first | k_is | rfl)
    (case c7 => first | k_is | rfl)
    (case k7 => first | k_is | rfl)
    (case a8 => first | k_is | rfl)
    (case l8 => first | k_is | rfl)
    (case c8 => first | k_is | rfl)
    (case k8 => first | k_is | rfl)
    (case a9 => first | k_is | rfl)
    (case l9 => first | k_is | rfl)
    (case c9 => first | k_is | rfl)
    (case k9 => first | k_is | rfl)
    (case a10 => first | k_is | rfl)
    (case l10 => first | k_is | rfl)
    (case c10 => first | k_is | rfl)
    (case k10 => first | k_is | rfl)
    (case a11 => first | k_is | rfl)
    (case l11 => first | k_is | rfl)
    (case c11 => first | k_is | rfl)
    (case k11 => first | k_is | rfl)
    (case x1_1 => first | k_is | rfl)
    (case x1_2 => first | k_is | rfl)
    (case x1_3 => first | k_is | rfl)
    (case x1_4 => first | k_is | rfl)
    (case x1_5 => first | k_is | rfl)
    (case x1_6 => first | k_is | rfl)
    (case x1_7 => first | k_is | rfl)
    (case x1_8 => first | k_is | rfl)
    (case x1_9 => first | k_is | rfl)
    (case x1_10 => first | k_is | rfl)
    (case x1_11 => first | k_is | rfl)
    (case x1_12 => first | k_is | rfl)
    (case x1_13 => first | k_is | rfl)
    (case x1_14 => first | k_is | rfl)
    (case x1_15 => first | k_is | rfl)
    (case x1_16 => first | k_is | rfl)
    (case x1_17 => first | k_is | rfl)
    (case x1_18 => first | k_is | rfl)
    (case x1_19 => first | k_is | rfl)
    (case x1_20 => first | k_is | rfl)
    (case x1_21 => first | k_is | rfl)
    (case x1_22 => first | k_is | rfl)
    (case x1_23 => first | k_is | rfl)
    (case l12 => first | k_is | rfl)
    (case c12 => first | k_is | rfl)
    (case k12 => first | k_is | rfl)
    (case z1 => first | k_is | rfl)
    (case z2 => first | k_is | rfl)
    (case z3 => first | k_is | rfl)
    (case z4 => first | k_is | rfl)
    (case z5 => first | k_is | rfl)
    (case z6 => first | k_is | rfl)
    (case z7 => first | k_is | rfl)
    (case z8 => first | k_is | rfl)
    (case z9 => first | k_is | rfl)
    (case z10 => first | k_is | rfl)
    (case z11 => first | k_is | rfl)
    (case i1 => first | k_is | rfl)
    (case d1_1 => first | k_is | rfl)
    (case d1_2 => first | k_is | rfl)
    (case d1_3 => first | k_is | rfl)

