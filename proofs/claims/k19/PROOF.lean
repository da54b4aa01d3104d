import PyProof.Rows.All
import Wide.All
import OpenK.AllK
import Wide.FinOn
import HandS.ForMost
import HandS.Wide
import HandS.Gcd
import HandS.IsInst
import KE.KExcIs
import HandS.ExcIs
import HandS.ExcInit
import HandS.ExcField
import HandS.ExcOwn
import HandS.WordsExc
import KE.GoesMore
import KE.GoesEnum
import HandS.Iter
import HandS.Text
import HandS.StrMore
import KE.IntTextLaws
import PyProof.Rows.RegStrFacts
import PyProof.StrLawsChain
import HandS.Dict
import HandS.More
import HandS.Exc
import PyProof.ReprRoads
import HandS.Star
import HandS.RaiseMore
import PySem.Challenge.RW_compasswork_k19_texts_of_drawings
set_option Elab.async false
set_option linter.all false
set_option maxRecDepth 100000
/-! what the proofs of all laws share: own rules, heaps, the state of draws, comprehensions, rows of ints -/
namespace KG
open PySem PySem.Spec PyProof.Rows L2
def co (p : List Int) (i : Nat) : Int := p.getD i 0
theorem co_ge {p : List Int} {i : Nat} (h : p.length ≤ i) : co p i = 0 := by
  simp [co, List.getD_eq_getElem?_getD, List.getElem?_eq_none h]
theorem co_mem {row : List Int} {i : Nat} (h : i < row.length) : co row i ∈ row := by simp [co, List.getD_eq_getElem?_getD, h]
/-- // by any divisor but 0 of less than 9000 bits -/
def CDivZ (_ j : Int) : Prop := j ≠ 0 ∧ j.natAbs.log2 < 9000
/-- a def that may be called -/
structure Cal (P : Program) (w : World) (K : PySem.W.Frag) (mg : Str → Option Value) (base : Heap) (k : Nat) (x : Str) (ps : List Str) (sp : Sp) where
  f : Addr
  fd : FuncData
  ok : FnOk P w K mg base CX0 k f fd ps sp
  b : Binds K fd ps []
  m : mg x = some (.ref f)
  kp : PySem.W.keepIn K (.ref f) = true
section
variable {X : Cx}
theorem op_fdivZ : OpR X (binaryOp .FloorDiv) (rI CDivZ fun i j => .int (i.fdiv j)) :=
  opI fun _ _ _ _ _ _ _ hc q => floordiv_int hc.1 q (.inl (PyProof.noPylong_of_log2 hc.2))
end
/-! ### heaps -/
theorem same_new {H : Hp} {p : Addr} (h : H p = none) (o : HO) : Same H (upd H p o) := fun b u q => by rw [upd_ne (ne_of_none q h)]; exact q
/-- all but what stands at p is as it was -/
def But (p : Addr) (H H' : Hp) : Prop := ∀ b o, b ≠ p → H b = some o → H' b = some o
theorem But.refl (p : Addr) (H : Hp) : But p H H := fun _ _ _ h => h
theorem But.trans {p : Addr} {H H1 H2 : Hp} (a : But p H H1) (b : But p H1 H2) : But p H H2 := fun c o n h => b c o n (a c o n h)
theorem But.of {p : Addr} {H H' : Hp} (s : Same H H') : But p H H' := fun b o _ h => s b o h
theorem But.put {p : Addr} (H : Hp) (o : HO) : But p H (upd H p o) := fun b u n h => by rw [upd_ne n]; exact h
theorem But.seq {K : PySem.W.Frag} {p : Addr} {H H' : Hp} {a : Addr} {xs : List V} (e : But p H H') (n : a ≠ p) (h : SqL K H a xs) : SqL K H' a xs := by
  rcases h with (h | ⟨o, h⟩) | h
  · exact .inl (.inl (e _ _ n h))
  · exact .inl (.inr ⟨o, e _ _ n h⟩)
  · exact .inr h
theorem But.seqT {K : PySem.W.Frag} {p : Addr} {H H' : Hp} {a : Addr} {xs : List V} (e : But p H H') (n : a ≠ p) (h : SqT K H a xs) : SqT K H' a xs := by
  rcases h with (h | ⟨o, h⟩) | h
  · exact .inl (.inl (e _ _ n h))
  · exact .inl (.inr ⟨o, e _ _ n h⟩)
  · exact .inr h
theorem Same.seqT {K : PySem.W.Frag} {H H' : Hp} {a : Addr} {xs : List V} (e : Same H H') (h : SqT K H a xs) : SqT K H' a xs := by
  rcases h with (h | ⟨o, h⟩) | h
  · exact .inl (.inl (e _ _ h))
  · exact .inl (.inr ⟨o, e _ _ h⟩)
  · exact .inr h
/-! ### the state that numbers are drawn from -/
def stL (a e : Addr) (r c m : Int) : List V := [.ref a, .int r, .int c, .int m, .ref e, .int 0, .int 0, .int 0]
def StOk (ns : List Int) (r c m : Int) : Prop := (m = 1 ∧ 0 < ns.length) ∨ (m = 0 ∧ 0 ≤ r ∧ 0 ≤ c)
theorem upd_self {H : Hp} {p : Addr} {o : HO} (h : H p = some o) : upd H p o = H := by
  funext b
  by_cases e : b = p
  · rw [e, upd_same, h]
  · rw [upd_ne e]
theorem same_upd {H H' : Hp} (s : Same H H') (p : Addr) (o : HO) : Same (upd H p o) (upd H' p o) := fun b u h => by
  by_cases e : b = p
  · rw [e, upd_same] at h ⊢; exact h
  · rw [upd_ne e] at h ⊢; exact s b u h
theorem but_upd {p : Addr} {H H' : Hp} (s : But p H H') (o : HO) : Same (upd H p o) (upd H' p o) := fun b u h => by
  by_cases e : b = p
  · rw [e, upd_same] at h ⊢; exact h
  · rw [upd_ne e] at h ⊢; exact s b u e h
/-- a list that is to be read whatever stands at p -/
def SqO (K : PySem.W.Frag) (H : Hp) (p a : Addr) (xs : List V) : Prop := ∀ o, SqL K (upd H p o) a xs
theorem SqO.new {K : PySem.W.Frag} {H : Hp} {p a : Addr} {xs : List V} (h : SqL K H a xs) (n : H p = none) : SqO K H p a xs := fun o => (same_new n o).seq h
theorem SqO.now {K : PySem.W.Frag} {H : Hp} {p a : Addr} {xs : List V} {o : HO} (h : SqO K H p a xs) (e : H p = some o) : SqL K H a xs := by
  have := h o
  rwa [upd_self e] at this
theorem SqO.but {K : PySem.W.Frag} {H H' : Hp} {p a : Addr} {xs : List V} (h : SqO K H p a xs) (s : But p H H') : SqO K H' p a xs := fun o => (but_upd s o).seq (h o)
def StX (H : Hp) (p a : Addr) (ns : List Int) : Prop := ∃ (e : Addr) (r c m : Int), H p = some (.lst (stL a e r c m)) ∧ StOk ns r c m
theorem StX.but {H H' : Hp} {p a : Addr} {ns : List Int} (h : StX H p a ns) (e : H' p = H p) : StX H' p a ns := by
  obtain ⟨x, r, c, m, h1, h2⟩ := h
  exact ⟨x, r, c, m, e ▸ h1, h2⟩
theorem StX.same {H H' : Hp} {p a : Addr} {ns : List Int} (h : StX H p a ns) (s : Same H H') : StX H' p a ns := by
  obtain ⟨x, r, c, m, h1, h2⟩ := h
  exact ⟨x, r, c, m, s _ _ h1, h2⟩
theorem at_n {ns : List Int} {i : Int} (h0 : 0 ≤ i) (h1 : i < ns.length) : ∃ v : Int, atI (ns.map V.int) i = some (.int v) := by
  obtain ⟨k, rfl⟩ := Int.eq_ofNat_of_zero_le h0
  have hk : k < ns.length := by omega
  exact ⟨ns[k], atI_nat (by rw [List.getElem?_map, List.getElem?_eq_getElem hk]; rfl)⟩
/-! ### comprehensions whose step leaves the objects as they are -/
section
variable {K : PySem.W.Frag} {a D : Addr} {xs : List V} {g : TG} {te : TE} {vs : List Nat} {σ : L2.St} {H1 : Hp} {Qd : Hp → Prop}
theorem grown {H : Hp} {D : Addr} {xs : List V} {G : V → V} {i : Nat} {x : V} (hx : xs[i]? = some x) (hl : xs.length ≤ 1000) : (((xs.take i).map G).length < sizeLine) ∧ ((xs.take i).map G ++ [G x] = (xs.take (i + 1)).map G) := by
  have hi : i < xs.length := (List.getElem?_eq_some_iff.mp hx).1
  refine ⟨small1000 (by rw [List.length_map, List.length_take]; omega), ?_⟩
  rw [List.take_add_one, hx, List.map_append]; rfl
theorem comp_list (G : V → V) (hx : SqL K H1 a xs) (hD : H1 D = none) (hl : xs.length ≤ 1000)
    (hs : ∀ (i : Nat) (x : V) (H : Hp) (Nx : V → Hp → Prop), xs[i]? = some x → Same H1 H → Nx (G x) H → g x (wipe σ vs) H fun σ2 H2 => wipe σ2 vs = wipe σ vs ∧ te σ2 H2 Nx)
    (hd : ∀ H, Same H1 H → H D = some (.lst (xs.map G)) → Qd H) :
    ∃ W : Nat → Nat → Hp → Prop, (∃ m, W 0 m (upd H1 D (.lst []))) ∧ ∀ i m H, W i m H →
      ((Itl K a).stop i H ∧ Qd H) ∨ ((Itl K a).go i H ∧ ∃ Nx : Hp → Prop, (∀ H', Nx H' → ∃ m', m' < m ∧ W (i + 1) m' H') ∧ ∀ x H', (Itl K a).yld i H x H' → g x (wipe σ vs) H' fun σ2 H2 => wipe σ2 vs = wipe σ vs ∧ tYes σ2 H2 fun b H3 =>
        if b = true then te σ2 H3 fun y H4 => ∃ acc, H4 D = some (.lst acc) ∧ acc.length < sizeLine ∧ Nx (upd H4 D (.lst (acc ++ [y]))) else Nx H3) := by
  refine lc_list (xs := xs) (fun i H => Same H1 H ∧ H D = some (.lst ((xs.take i).map G))) ⟨same_new hD _, upd_same⟩ (fun i H _ h => h.1.seq hx) (fun i x H hix h => ?_) (fun H h => hd H h.1 (by rw [h.2, List.take_length]))
  have hg := grown (H := H) (D := D) (G := G) hix hl
  have := hs i x H (fun y H4 => ∃ acc, H4 D = some (.lst acc) ∧ acc.length < sizeLine ∧ (Same H1 (upd H4 D (.lst (acc ++ [y]))) ∧ (upd H4 D (.lst (acc ++ [y]))) D = some (.lst ((xs.take (i + 1)).map G)))) hix h.1
    ⟨_, h.2, hg.1, fun b o e => by rw [upd_ne (ne_of_none e hD)]; exact h.1 b o e, by rw [upd_same, hg.2]⟩
  exact this
theorem comp_tup (G : V → V) (hx : SqT K H1 a xs) (hD : H1 D = none) (hl : xs.length ≤ 1000)
    (hs : ∀ (i : Nat) (x : V) (H : Hp) (Nx : V → Hp → Prop), xs[i]? = some x → Same H1 H → Nx (G x) H → g x (wipe σ vs) H fun σ2 H2 => wipe σ2 vs = wipe σ vs ∧ te σ2 H2 Nx)
    (hd : ∀ H, Same H1 H → H D = some (.lst (xs.map G)) → Qd H) :
    ∃ W : Nat → Nat → Hp → Prop, (∃ m, W 0 m (upd H1 D (.lst []))) ∧ ∀ i m H, W i m H →
      ((Itt K a).stop i H ∧ Qd H) ∨ ((Itt K a).go i H ∧ ∃ Nx : Hp → Prop, (∀ H', Nx H' → ∃ m', m' < m ∧ W (i + 1) m' H') ∧ ∀ x H', (Itt K a).yld i H x H' → g x (wipe σ vs) H' fun σ2 H2 => wipe σ2 vs = wipe σ vs ∧ tYes σ2 H2 fun b H3 =>
        if b = true then te σ2 H3 fun y H4 => ∃ acc, H4 D = some (.lst acc) ∧ acc.length < sizeLine ∧ Nx (upd H4 D (.lst (acc ++ [y]))) else Nx H3) := by
  refine lc_tup (xs := xs) (fun i H => Same H1 H ∧ H D = some (.lst ((xs.take i).map G))) ⟨same_new hD _, upd_same⟩ (fun i H _ h => Same.seqT h.1 hx) (fun i x H hix h => ?_) (fun H h => hd H h.1 (by rw [h.2, List.take_length]))
  have hg := grown (H := H) (D := D) (G := G) hix hl
  have := hs i x H (fun y H4 => ∃ acc, H4 D = some (.lst acc) ∧ acc.length < sizeLine ∧ (Same H1 (upd H4 D (.lst (acc ++ [y]))) ∧ (upd H4 D (.lst (acc ++ [y]))) D = some (.lst ((xs.take (i + 1)).map G)))) hix h.1
    ⟨_, h.2, hg.1, fun b o e => by rw [upd_ne (ne_of_none e hD)]; exact h.1 b o e, by rw [upd_same, hg.2]⟩
  exact this
end
/-- a list or a tuple -/
def Sq (K : PySem.W.Frag) (H : Hp) (a : Addr) (xs : List V) : Prop := SqL K H a xs ∨ SqT K H a xs
theorem Sq.same {K : PySem.W.Frag} {H H' : Hp} {a : Addr} {xs : List V} (h : Sq K H a xs) (s : Same H H') : Sq K H' a xs := h.elim (fun h => .inl (s.seq h)) fun h => .inr (Same.seqT s h)
theorem Sq.but {K : PySem.W.Frag} {p : Addr} {H H' : Hp} {a : Addr} {xs : List V} (h : Sq K H a xs) (n : a ≠ p) (s : But p H H') : Sq K H' a xs := h.elim (fun h => .inl (s.seq n h)) fun h => .inr (s.seqT n h)
/-! ### ints in lists -/
theorem map_at {row : List Int} {i : Nat} (h : i < row.length) : (row.map V.int)[i]? = some (.int (co row i)) := by
  rw [List.getElem?_map, List.getElem?_eq_getElem h]
  simp [co, List.getD_eq_getElem?_getD, h]
theorem map_atI {row : List Int} {i : Int} (h0 : 0 ≤ i) (h : i < row.length) : atI (row.map V.int) i = some (.int (co row i.toNat)) := by
  obtain ⟨k, rfl⟩ := Int.eq_ofNat_of_zero_le h0
  exact atI_nat (map_at (by omega))
theorem map_last {row : List Int} (h : row ≠ []) : atI (row.map V.int) (-1) = some (.int (co row (row.length - 1))) := by
  have hp := List.length_pos_iff.mpr h
  have e : ixN (row.map V.int).length (-1) = some (row.length - 1) := by
    unfold ixN
    rw [if_neg (by decide), if_pos (by rw [List.length_map]; omega), List.length_map]
    congr 1; omega
  unfold atI
  rw [e]
  exact map_at (by omega)
theorem map_mem {row : List Int} {i : Nat} {x : V} (h : (row.map V.int)[i]? = some x) : i < row.length ∧ x = .int (co row i) := by
  have hi : i < row.length := by
    have := (List.getElem?_eq_some_iff.mp h).1
    rwa [List.length_map] at this
  refine ⟨hi, ?_⟩
  rw [map_at hi] at h
  exact (Option.some.inj h).symm
theorem log_small {z : Int} {n m : Nat} (h : z.natAbs < 2 ^ n) (h0 : 0 < n) (hm : n ≤ m) : z.natAbs.log2 < m := Nat.lt_of_lt_of_le (PySem.Flt.log2_lt_of h0 h) hm
section
variable {D : Addr} {g : TG} {te : TE} {vs : List Nat} {σ : L2.St} {H1 : Hp} {Qd : Hp → Prop}
theorem comp_range (G : Nat → V) (n : Nat) (hD : H1 D = none) (hl : n ≤ 1000)
    (hs : ∀ (i : Nat) (H : Hp) (Nx : V → Hp → Prop), i < n → Same H1 H → Nx (G i) H → g (.int (0 + (i : Nat))) (wipe σ vs) H fun σ2 H2 => wipe σ2 vs = wipe σ vs ∧ te σ2 H2 Nx)
    (hd : ∀ H, Same H1 H → H D = some (.lst ((List.range n).map G)) → Qd H) :
    ∃ W : Nat → Nat → Hp → Prop, (∃ m, W 0 m (upd H1 D (.lst []))) ∧ ∀ i m H, W i m H →
      ((Itr 0 n).stop i H ∧ Qd H) ∨ ((Itr 0 n).go i H ∧ ∃ Nx : Hp → Prop, (∀ H', Nx H' → ∃ m', m' < m ∧ W (i + 1) m' H') ∧ ∀ x H', (Itr 0 n).yld i H x H' → g x (wipe σ vs) H' fun σ2 H2 => wipe σ2 vs = wipe σ vs ∧ tYes σ2 H2 fun b H3 =>
        if b = true then te σ2 H3 fun y H4 => ∃ acc, H4 D = some (.lst acc) ∧ acc.length < sizeLine ∧ Nx (upd H4 D (.lst (acc ++ [y]))) else Nx H3) := by
  refine lc_range (lo := 0) (n := n) (fun i H => Same H1 H ∧ H D = some (.lst ((List.range i).map G))) ⟨same_new hD _, upd_same⟩ (fun i H hi h => ?_) (fun H h => hd H h.1 h.2)
  have := hs i H (fun y H4 => ∃ acc, H4 D = some (.lst acc) ∧ acc.length < sizeLine ∧ (Same H1 (upd H4 D (.lst (acc ++ [y]))) ∧ (upd H4 D (.lst (acc ++ [y]))) D = some (.lst ((List.range (i + 1)).map G)))) hi h.1
    ⟨_, h.2, small1000 (by rw [List.length_map, List.length_range]; omega), fun b o e => by rw [upd_ne (ne_of_none e hD)]; exact h.1 b o e, by rw [upd_same, List.range_succ, List.map_append]; rfl⟩
  exact this
end
/-- an item of a list or a tuple of ints -/
theorem rix {K : PySem.W.Frag} {H : Hp} {a : Addr} {row : List Int} {i : Int} {Q : VK} (h : Sq K H a (row.map V.int)) (h0 : 0 ≤ i) (h1 : i < row.length) (q : Q (.int (co row i.toNat)) H) : rIx K (.ref a) (.int i) H Q :=
  h.elim (fun h => .inl ⟨a, _, _, _, rfl, rfl, h, map_atI h0 h1, q⟩) fun h => .inr (.inl ⟨a, _, _, _, rfl, rfl, h, map_atI h0 h1, q⟩)
theorem set_map {p : List Int} {k : Nat} {z : Int} : (p.map V.int).set k (.int z) = (p.set k z).map V.int := by rw [List.map_set]
theorem ixN_nat {n : Nat} {k : Int} (h0 : 0 ≤ k) (h : k < n) : ixN n k = some k.toNat := by
  unfold ixN; rw [if_pos h0, if_pos h]
theorem cut_to (xs : List V) (n : Nat) (h : n ≤ xs.length) : cutV xs none (some (n : Int)) = xs.take n := by
  unfold cutV
  rw [HT.sIx_none, HT.sIx_nat, Nat.min_eq_left h, List.drop_zero, Nat.sub_zero]
def rLen (K : PySem.W.Frag) : List V → Hp → VK → Prop := fun xs H Q => ∃ p ys, xs = [.ref p] ∧ (SqL K H p ys ∨ SqT K H p ys) ∧ Q (.int ys.length) H
/-! the rules that read the written part, said with it: for use within a comprehension -/
section
variable {X : Cx} {K : PySem.W.Frag}
theorem call_lenK (e : X.K = K) : CallR X (.builtin "len") (rLen K) := by subst e; exact call_len_seq
theorem ix_seqK (e : X.K = K) : IxR X (rIx K) := by subst e; exact ix_seq
theorem ix_listK (e : X.K = K) : IxR X (rIxL K) := by subst e; exact ix_list
theorem ix_tupK (e : X.K = K) : IxR X (rIxT K) := by subst e; exact ix_tup
end
theorem same_put {H H' : Hp} {D : Addr} {o : HO} (s : Same H H') (hD : H D = none) : Same H (upd H' D o) := fun b u h => by
  rw [upd_ne (ne_of_none h hD)]; exact s b u h
/-! rows of ints as data -/
theorem dp_all {K : PySem.W.Frag} {H : Hp} : ∀ r : List Int, DpAll K H (r.map V.int) (r.map PyData.int)
  | [] => .nil
  | x :: r => .cons (.int x) (dp_all r)
theorem lay_all : ∀ r : List Int, PyData.canLayAll0 (r.map PyData.int) = true
  | [] => by simp [PyData.canLayAll0]
  | x :: r => by simp [PyData.canLayAll0, PyData.canLay0, lay_all r]
theorem deep_all : ∀ r : List Int, PyData.depthAll (r.map PyData.int) = 0
  | [] => by simp [PyData.depthAll]
  | x :: r => by simp [PyData.depthAll, PyData.depth, deep_all r]
theorem shaped_l (r : List Int) : SeqAt.shaped (.list (r.map PyData.int)) = true := by
  simp [SeqAt.shaped, PyData.canLay0, lay_all, PyData.depth, deep_all]
theorem shaped_t (r : List Int) : SeqAt.shaped (.tuple (r.map PyData.int)) = true := by
  simp [SeqAt.shaped, PyData.canLay0, lay_all, PyData.depth, deep_all]
theorem eqv_all : ∀ r q : List Int, PyData.eqvAll (r.map PyData.int) (q.map PyData.int) = decide (r = q)
  | [], [] => by simp [PyData.eqvAll]
  | [], y :: q => by simp [PyData.eqvAll]
  | x :: r, [] => by simp [PyData.eqvAll]
  | x :: r, y :: q => by
    have ih := eqv_all r q
    show (PyData.eqv (.int x) (.int y) && PyData.eqvAll (r.map PyData.int) (q.map PyData.int)) = _
    rw [ih]
    have e : PyData.eqv (.int x) (.int y) = (x == y) := by simp [PyData.eqv]
    rw [e, Bool.eq_iff_iff]
    simp
theorem eqv_l (r q : List Int) : PyData.eqv (.list (r.map PyData.int)) (.list (q.map PyData.int)) = decide (r = q) := by
  rw [← eqv_all]; simp [PyData.eqv]
theorem eqv_t (r q : List Int) : PyData.eqv (.tuple (r.map PyData.int)) (.tuple (q.map PyData.int)) = decide (r = q) := by
  rw [← eqv_all]; simp [PyData.eqv]
/-- the reading of a comparison of two rows -/
theorem eq_lists {K : PySem.W.Frag} {H : Hp} {a b : Addr} {r q : List Int} {Q : VK} (h1 : SqL K H a (r.map V.int)) (h2 : SqL K H b (q.map V.int)) (k : Q (.bl (decide (r = q))) H) : rEqD K (.ref a) (.ref b) H Q :=
  ⟨_, _, .lst h1 (dp_all r), .lst h2 (dp_all q), shaped_l r, shaped_l q, by rw [eqv_l]; exact k⟩
theorem eq_tups {K : PySem.W.Frag} {H : Hp} {a b : Addr} {r q : List Int} {Q : VK} (h1 : SqT K H a (r.map V.int)) (h2 : SqT K H b (q.map V.int)) (k : Q (.bl (decide (r = q))) H) : rEqD K (.ref a) (.ref b) H Q :=
  ⟨_, _, .tup h1 (dp_all r), .tup h2 (dp_all q), shaped_t r, shaped_t q, by rw [eqv_t]; exact k⟩
theorem ne_tups {K : PySem.W.Frag} {H : Hp} {a b : Addr} {r q : List Int} {Q : VK} (h1 : SqT K H a (r.map V.int)) (h2 : SqT K H b (q.map V.int)) (k : Q (.bl (!decide (r = q))) H) : rNeD K (.ref a) (.ref b) H Q :=
  ⟨_, _, .tup h1 (dp_all r), .tup h2 (dp_all q), shaped_t r, shaped_t q, by rw [eqv_t]; exact k⟩
theorem call_isiK {X : Cx} {K : PySem.W.Frag} (e : X.K = K) : CallR X (.builtin "isinstance") (rIsi K) := by subst e; exact call_isi
/-- a comprehension over a list whose step may make new objects -/
theorem comp_listS {K : PySem.W.Frag} {a D : Addr} {xs : List V} {g : TG} {te : TE} {vs : List Nat} {σ : L2.St} {H1 : Hp} {Qd : Hp → Prop} (R : V → Prop) (hx : SqL K H1 a xs) (hD : H1 D = none) (hl : xs.length ≤ 1000)
    (hs : ∀ (i : Nat) (x : V) (H : Hp) (Nx : V → Hp → Prop), xs[i]? = some x → Same H1 H → (∀ y H', Same H H' → R y → Nx y H') → g x (wipe σ vs) H fun σ2 H2 => wipe σ2 vs = wipe σ vs ∧ te σ2 H2 Nx)
    (hd : ∀ H ys, Same H1 H → H D = some (.lst ys) → ys.length = xs.length → (∀ y ∈ ys, R y) → Qd H) :
    ∃ W : Nat → Nat → Hp → Prop, (∃ m, W 0 m (upd H1 D (.lst []))) ∧ ∀ i m H, W i m H →
      ((Itl K a).stop i H ∧ Qd H) ∨ ((Itl K a).go i H ∧ ∃ Nx : Hp → Prop, (∀ H', Nx H' → ∃ m', m' < m ∧ W (i + 1) m' H') ∧ ∀ x H', (Itl K a).yld i H x H' → g x (wipe σ vs) H' fun σ2 H2 => wipe σ2 vs = wipe σ vs ∧ tYes σ2 H2 fun b H3 =>
        if b = true then te σ2 H3 fun y H4 => ∃ acc, H4 D = some (.lst acc) ∧ acc.length < sizeLine ∧ Nx (upd H4 D (.lst (acc ++ [y]))) else Nx H3) := by
  refine lc_list (xs := xs) (fun i H => Same H1 H ∧ ∃ ys, H D = some (.lst ys) ∧ ys.length = i ∧ ∀ y ∈ ys, R y) ⟨same_new hD _, [], upd_same, rfl, fun y h => by cases h⟩ (fun i H _ h => h.1.seq hx) (fun i x H hix h => ?_) (fun H h => ?_)
  · obtain ⟨sm, ys, e, l, r⟩ := h
    have hi : i < xs.length := (List.getElem?_eq_some_iff.mp hix).1
    have := hs i x H (fun y H4 => ∃ acc, H4 D = some (.lst acc) ∧ acc.length < sizeLine ∧ (Same H1 (upd H4 D (.lst (acc ++ [y]))) ∧ ∃ ys, (upd H4 D (.lst (acc ++ [y]))) D = some (.lst ys) ∧ ys.length = i + 1 ∧ ∀ y ∈ ys, R y)) hix sm
      (fun y H' s2 hr => ⟨ys, s2 _ _ e, small1000 (by omega), same_put (sm.trans s2) hD, ys ++ [y], upd_same, by rw [List.length_append, l]; rfl, fun z hz => by
        rcases List.mem_append.mp hz with hz | hz
        · exact r z hz
        · rw [List.mem_singleton.mp hz]; exact hr⟩)
    exact this
  · obtain ⟨sm, ys, e, l, r⟩ := h
    exact hd H ys sm e l r
theorem bools : ∀ ys : List V, (∀ y ∈ ys, ∃ b, y = V.bl b) → ∃ bs : List Bool, ys = bs.map V.bl
  | [], _ => ⟨[], rfl⟩
  | y :: ys, h => by
    obtain ⟨b, rfl⟩ := h y List.mem_cons_self
    obtain ⟨bs, rfl⟩ := bools ys fun z hz => h z (List.mem_cons_of_mem _ hz)
    exact ⟨b :: bs, rfl⟩
theorem StX.ne {H : Hp} {p a c : Addr} {ns : List Int} (X : StX H p a ns) (n : H c = none) : c ≠ p := fun z => by
  obtain ⟨_, _, _, _, e, _⟩ := X
  rw [z, e] at n; cases n
end KG

/-! steps of drawings, as the laws make them -/
namespace KG
open PySem PySem.Spec PyProof.Rows L2
structure Stp where
  w : Str
  ns : List Int
def stV (s : Stp) : List V := .str s.w :: s.ns.map V.int
/-- the values are the steps, each a tuple that stands -/
inductive SAt (H : Hp) : List V → List Stp → Prop
  | nil : SAt H [] []
  | cons {t : Addr} {s : Stp} {vs : List V} {ss : List Stp} : H t = some (.tup (stV s)) → SAt H vs ss → SAt H (.ref t :: vs) (s :: ss)
section
variable {H H' : Hp} {vs us : List V} {ss rs : List Stp}
theorem SAt.len (h : SAt H vs ss) : vs.length = ss.length := by
  induction h with
  | nil => rfl
  | cons _ _ ih => rw [List.length_cons, List.length_cons, ih]
theorem SAt.mono (h : SAt H vs ss) (k : ∀ t xs, H t = some (.tup xs) → H' t = some (.tup xs)) : SAt H' vs ss := by
  induction h with
  | nil => exact .nil
  | cons e _ ih => exact .cons (k _ _ e) ih
theorem SAt.same (h : SAt H vs ss) (s : Same H H') : SAt H' vs ss := h.mono fun t xs e => s t _ e
theorem SAt.put {r : Addr} {xs ys : List V} (h : SAt H vs ss) (e : H r = some (.lst xs)) : SAt (upd H r (.lst ys)) vs ss := h.mono fun t zs e2 => by
  rw [upd_ne (ne_of e2 e (by intro z; cases z))]; exact e2
theorem SAt.but {p a : Addr} {ns : List Int} (h : SAt H vs ss) (X : StX H p a ns) (b : But p H H') : SAt H' vs ss := h.mono fun t xs e => b _ _ (fun z => by
  obtain ⟨_, _, _, _, e2, _⟩ := X
  rw [z, e2] at e; cases e) e
theorem SAt.get : ∀ {vs : List V} {ss : List Stp} {i : Nat} {s : Stp}, SAt H vs ss → ss[i]? = some s → ∃ t, vs[i]? = some (.ref t) ∧ H t = some (.tup (stV s))
  | _, _, i, s, .nil, h => by simp at h
  | _, _, 0, s, .cons e _, h => by simp at h; subst h; exact ⟨_, rfl, e⟩
  | _, _, i + 1, s, .cons _ r, h => by
    obtain ⟨t, h1, h2⟩ := SAt.get (i := i) (s := s) r (by simpa using h)
    exact ⟨t, by simpa using h1, h2⟩
theorem SAt.append (h : SAt H vs ss) (k : SAt H us rs) : SAt H (vs ++ us) (ss ++ rs) := by
  induction h with
  | nil => exact k
  | cons e _ ih => exact .cons e ih
theorem SAt.take : ∀ {vs : List V} {ss : List Stp} (n : Nat), SAt H vs ss → SAt H (vs.take n) (ss.take n)
  | _, _, 0, _ => .nil
  | _, _, n + 1, .nil => .nil
  | _, _, n + 1, .cons e r => .cons e (SAt.take n r)
theorem SAt.drop : ∀ {vs : List V} {ss : List Stp} (n : Nat), SAt H vs ss → SAt H (vs.drop n) (ss.drop n)
  | _, _, 0, h => h
  | _, _, n + 1, .nil => .nil
  | _, _, n + 1, .cons _ r => SAt.drop n r
theorem SAt.rep {t : Addr} {s : Stp} (e : H t = some (.tup (stV s))) : ∀ n, SAt H (List.replicate n (.ref t)) (List.replicate n s)
  | 0 => .nil
  | n + 1 => .cons e (SAt.rep e n)
end
/-- whether a step of this word gives a point -/
def isPt (w : Str) : Bool := inV (.str w) [.str "point", .str "meet"]
/-- the forms of steps -/
def SForm (s : Stp) : Prop := (s.w = "point" ∧ s.ns.length = 2) ∨ (s.w = "line" ∧ s.ns.length = 2) ∨ (s.w = "circle" ∧ s.ns.length = 3) ∨ (s.w = "meet" ∧ s.ns.length = 3)
/-- i is the place of a step that gives a point (b), or a figure (not b) -/
def Nm1 (ss : List Stp) (b : Bool) (i : Int) : Prop := 0 ≤ i ∧ ∃ s, ss[i.toNat]? = some s ∧ isPt s.w = b
/-- a step that is drawn by the rules behind ss, its integers within m -/
def SNew (ss : List Stp) (m : Int) (s : Stp) : Prop :=
  (∃ x y, s = ⟨"point", [x, y]⟩ ∧ -m ≤ x ∧ x ≤ m ∧ -m ≤ y ∧ y ≤ m) ∨ (∃ i j, s = ⟨"line", [i, j]⟩ ∧ Nm1 ss true i ∧ Nm1 ss true j) ∨
  (∃ i j k, s = ⟨"circle", [i, j, k]⟩ ∧ Nm1 ss true i ∧ Nm1 ss true j ∧ Nm1 ss true k) ∨ (∃ i j w, s = ⟨"meet", [i, j, w]⟩ ∧ Nm1 ss false i ∧ Nm1 ss false j ∧ 0 ≤ w ∧ w ≤ 1)
theorem SNew.form {ss : List Stp} {m : Int} {s : Stp} (h : SNew ss m s) : SForm s := by
  rcases h with ⟨x, y, rfl, _⟩ | ⟨i, j, rfl, _⟩ | ⟨i, j, k, rfl, _⟩ | ⟨i, j, w, rfl, _⟩
  · exact .inl ⟨rfl, rfl⟩
  · exact .inr (.inl ⟨rfl, rfl⟩)
  · exact .inr (.inr (.inl ⟨rfl, rfl⟩))
  · exact .inr (.inr (.inr ⟨rfl, rfl⟩))
end KG

namespace KG
open PySem PySem.Spec PyProof.Rows L2
theorem cut_from (xs : List V) (n : Nat) (h : n ≤ xs.length) : cutV xs (some (n : Int)) none = xs.drop n := by
  unfold cutV
  rw [HT.sIx_none, HT.sIx_nat, Nat.min_eq_left h]
  exact List.take_of_length_le (by rw [List.length_drop]; omega)
theorem not_whole {n : Nat} {i : Nat} {hi : Option Int} (h : 0 < i) (k : 0 < n) : ¬ (HT.sIx n 0 (some (i : Int)) = 0 ∧ HT.sIx n n hi = n) := fun z => by
  have e : HT.sIx n 0 (some (i : Int)) = min i n := HT.sIx_nat n 0 i
  rw [e] at z
  have := z.1
  omega
end KG

/-! own errors whose __init__ stores one field -/
namespace KG
open PySem PySem.Spec PyProof.Rows L2
/-- isinstance(e, c), e the exception that the suite holds, with fields of its own -/
def rIsED (K : PySem.W.Frag) (D a : Addr) (cls : Value) (d : Option Addr) : List V → Hp → VK → Prop := fun xs H Q => cls = .ref D ∧ ∃ (dd : Addr) (fs : List (Str × V)) (c : V) (cv : Value) (b : Bool), d = some dd ∧ H dd = some (.xd fs) ∧ xs = [.ref a, c] ∧ (∀ u, RelV c u → u = cv) ∧ PySem.W.kitOne K (.ref D) cv = some b ∧ Q (.bl b) H
theorem call_isED {X : Cx} {a D : Addr} {oe : Obj} {cls : Value} {d : Option Addr} {pn : List (Addr × Obj)} (C : ExcC X.K D) (hcl : (PySem.W.clsIn X.K D).isSome = true) (hz : Zc cls d oe) (hf : ∃ vs, oe.data = .fields vs) : CallR (X.suite a ((a, oe) :: pn)) (.builtin "isinstance") (rIsED X.K D a cls d) := by
  intro pins s σ H xs us Q I r h
  obtain ⟨rfl, dd, fs, c, cv, b, rfl, ed, rfl, hcv, e, q⟩ := h
  obtain ⟨u1, u2, rfl, r1, r2⟩ := vals2 r
  cases (show u1 = Value.ref a from r1)
  have ec := hcv _ r2
  subst ec
  obtain ⟨hget, _⟩ := I.pin (a, oe) (List.mem_append.mpr (.inl List.mem_cons_self))
  obtain ⟨vs, hv⟩ := hf
  have hx : ObjOk X.prog X.w H s.heap dd (.xd fs) := I.hok dd _ ed
  obtain ⟨mA, hns, _⟩ := hx
  obtain ⟨od, ho, _⟩ := lookIn_ns hns
  have J : PySem.W.InstAt s.heap a oe D (some od) := ⟨hget, hz.1, by unfold PySem.W.notCls; rw [hv] <;> rfl, by rw [hz.2]; exact ho⟩
  exact PySem.W.kia_one (PySem.W.kitx_exc hcl C.hg C.hk C.hs C.ha C.hn C.ht C.hm) I.kIn J e (fun z => nomatch z) fun tk => ⟨.bl b, H, I.kept (t' := tk) fun _ _ z => z, rfl, q⟩
/-- what the written part says of an own error of the name x with the field f, below the error at W, below ValueError -/
structure OwnE (K : PySem.W.Frag) (mg : Str → Option Value) (x f : Str) (C fI W : Addr) : Prop where
  gC : mg x = some (.ref C)
  oex : OexC K C
  xf : XfC K C
  is : ExcC K C
  cl : (PySem.W.clsIn K C).isSome = true
  noF : PySem.W.findIn K (.ref C) f = some none
  iC : PySem.W.findIn K (.ref C) "__init__" = some (some (.ref fI))
  tI : PySem.W.typeIn K (.ref fI) = some (.type "function")
  exm : PySem.W.exmOne K (.ref C) (.ref C) = some true
  kW : PySem.W.kitOne K (.ref C) (.ref W) = some true
  kV : PySem.W.kitOne K (.ref C) (.type "ValueError") = some true
theorem kit_ref {K : PySem.W.Frag} {t : Value} {W : Addr} (h1 : PySem.W.isClsIn K W = true) (h2 : PySem.W.typeIn K (.ref W) = some (.type "type")) (h3 : PySem.W.subIn K t (.ref W) = some true) : PySem.W.kitOne K t (.ref W) = some true := by
  have h1' : (PySem.W.clsIn K W).isSome = true := h1
  unfold PySem.W.kitOne
  by_cases z : (t == .ref W) = true
  · rw [if_pos z]
  · rw [if_neg z]
    show (if ((PySem.W.clsIn K W).isSome && PySem.W.typeIn K (.ref W) == some (.type "type")) = true then PySem.W.subIn K t (.ref W) else none) = some true
    rw [if_pos (by rw [h1', h2] <;> rfl), h3]
theorem kit_val {K : PySem.W.Frag} {C : Addr} (h3 : PySem.W.subIn K (.ref C) (.type "ValueError") = some true) : PySem.W.kitOne K (.ref C) (.type "ValueError") = some true := by
  unfold PySem.W.kitOne
  rw [if_neg (show ¬ (Value.ref C == Value.type "ValueError") = true from fun z => nomatch (beq_iff_eq.mp z))]
  show (if PySem.W.kitMeta "ValueError" = true then PySem.W.subIn K (.ref C) (.type "ValueError") else none) = some true
  rw [if_pos (by decide +kernel), h3]
theorem own_mk {K : PySem.W.Frag} {h : Heap} {mg : Str → Option Value} {x f : Str} {C fI W : Addr} (X : K.In h) (G : h.Ns mainGlobals mg) {nm q : Str} {N : Addr} {bs : List Value} {sn : List Str} {sub : List Value} {ab : Bool} {col : Option Bool} {dd : Option Addr} {m0 m1 m2 m3 m5 : Option Value}
    (eC : PySem.W.nsIn K mainGlobals x = some (some (.ref C)))
    (eX : K.lookup C = some (excClassObj nm q C N bs [.ref W, .type "ValueError", .type "Exception", .type "BaseException", .type "object"] true sn sub ab col dd m0 m1 m2 m3 m5 "ValueError.__new__"))
    (e1 : PySem.W.findIn K (.ref C) "__setattr__" = some (some (.builtin "object.__setattr__"))) (e2 : PySem.W.findIn K (.ref C) "__getattribute__" = some (some (.builtin "BaseException.__getattribute__"))) (e3 : PySem.W.findIn K (.ref C) "__getattr__" = some none) (e4 : PySem.W.findIn K (.ref C) f = some none)
    (e5 : PySem.W.findIn K (.ref C) "__init__" = some (some (.ref fI))) (e6 : PySem.W.typeIn K (.ref fI) = some (.type "function")) (e7 : PySem.W.keepIn K (.ref C) = true) (e8 : PySem.W.subIn K (.ref C) (.type "BaseException") = some true) (e9 : PySem.W.typeIn K (.ref C) = some (.type "type")) (e10 : PySem.W.hasDictIn K C = true)
    (e11 : PySem.W.isClsIn K C = true) (e12 : PySem.W.subIn K (.ref C) (.ref C) = some true) (e13 : PySem.W.subIn K (.ref C) (.ref W) = some true) (e14 : PySem.W.typeIn K (.ref W) = some (.type "type")) (e15 : PySem.W.isClsIn K W = true) (e16 : PySem.W.subIn K (.ref C) (.type "ValueError") = some true)
    (e17 : PySem.W.findIn K (.ref C) "__class__" = some (some (.builtin "object.__class__"))) (e18 : PySem.W.specialIn K (.builtin "object.__class__") "__get__" = some (some (.builtin "getset_descriptor.__get__"))) (e19 : PySem.W.takesIn K (.builtin "object.__class__") = some true) (e20 : PySem.W.mroIn K C (.type "object") = some true) : OwnE K mg x f C fI W :=
  { gC := PySem.W.mg_of X G eC, oex := ⟨⟨nm, q, N, bs, _, sn, sub, ab, col, dd, m0, m1, m2, m3, m5, eX, rfl⟩, e1, e8, e9, e7⟩, xf := ⟨e2, e3, e8, e10⟩, is := ⟨e2, e3, e8, e10, e17, e18, e19, e20⟩, cl := e11, noF := e4, iC := e5, tI := e6, exm := PySem.W.exm_ref e8 e10 e9 e12, kW := kit_ref e15 e14 e13, kV := kit_val e16 }
/-- self.f = v, at an exception that is being made -/
def spInit (K : PySem.W.Frag) (f : Str) (C : Addr) : Sp := fun vs H Q _ => ∃ (a : Addr) (v : V), vs = [.ref a, v] ∧ OexC K C ∧ PySem.W.findIn K (.ref C) f = some none ∧ H a = some (exo a C none) ∧
  ∀ dx, H dx = none → dx ≠ a → Q .non (upd (upd H dx (exd dx [(f, v)])) a (exo a C (some dx)))
/-- the i-th statement of a class's body -/
def inCls : Stmt → Nat → Stmt
  | .ClassDef _ _ _ body _ _ _ _ _ _ _, i => body.getD i (.Pass ⟨0, 0, 0, 0⟩)
  | _, _ => .Pass ⟨0, 0, 0, 0⟩
end KG

/-! enumerate of a tuple -/
namespace KG
open PySem PySem.Spec PyProof.Rows L2
set_option maxHeartbeats 1000000 in
theorem enum_new1 {v : Value} {o : Obj} {Hq : Heap → Prop} (B : Begins v o Hq) : Meets (Builtin.«enumerate.__new__» ⟨[.type "enumerate", v], []⟩) (fun _ R s => Hq s.heap ∧ R (.ok (.ret (.ref (s.heap.push o).objs.size))) { s with heap := (s.heap.push o).push { cls := .type "enumerate", data := .fields #[.none, .bool false, .ref s.heap.objs.size, rawInt 0, .none, .none] } }) :=
  .of_wp fun prog w A R s h => by
    obtain ⟨hp, g, d, tk, os⟩ := s
    obtain ⟨h1, h⟩ := h
    have isub := sub_enumerate
    have q1 : ∀ {A' : Around} {E : Value → Shared → Prop} {Q : Value → Shared → Prop}, Q (.ref hp.objs.size) ⟨hp.push o, g, d, tk, os⟩ → wpAny (model prog w) A' (pyIter v) Q E ⟨hp, g, d, tk, os⟩ := fun q => B.iter prog w _ _ ⟨hp, g, d, tk, os⟩ _ h1 q
    wp_walk using q1
    refine wpAny_stack_any fun st => wpAny_pure ?_
    split
    · rename_i c _ _ _ _ _
      cases (c == Value.type "enumerate") <;> (wp_walk using q1; exact ⟨_, rfl, h⟩)
    · wp_walk using q1; exact ⟨_, rfl, h⟩
theorem call_enum1 {prog : Program} {w : World} {A : Around} {E : Value → Shared → Prop} {s : Shared} {v : Value} {o : Obj} {Hq : Heap → Prop} {Q : Value → Shared → Prop} (B : Begins v o Hq) (h1 : Hq s.heap)
    (h : ∀ h', IsEnum h' (s.heap.objs.size + 1) s.heap.objs.size 0 .none → h'.get? s.heap.objs.size = some o → (∀ b u, s.heap.get? b = some u → h'.get? b = some u) → Q (.ref (s.heap.objs.size + 1)) { s with heap := h' }) : wpAny (model prog w) A (call (.type "enumerate") [v]) Q E s := by
  refine callType_new F.called_enumerate (by decide) (F.typeCall_enumerate_1 _) (F.newCall_enumerate_1 _) (fun obj => F.args_object_init_2 obj _) F.entry_enumerate_new (enum_new1 B) ⟨h1, ?_⟩
  have hz : (s.heap.push o).objs.size = s.heap.objs.size + 1 := Heap.size_push ..
  show _ ∧ _
  rw [hz]
  have he : IsEnum ((s.heap.push o).push { cls := .type "enumerate", data := .fields #[.none, .bool false, .ref s.heap.objs.size, rawInt 0, .none, .none] }) (s.heap.objs.size + 1) s.heap.objs.size 0 .none := by
    have e := Heap.get?_push_size (s.heap.push o) (o := { cls := .type "enumerate", data := .fields #[.none, .bool false, .ref s.heap.objs.size, rawInt 0, .none, .none] }) rfl
    rwa [hz] at e
  exact ⟨⟨_, he, rfl⟩, h _ he (Heap.get?_push_of_some _ (Heap.get?_push_size _ B.free)) fun b u x => Heap.get?_push_of_some _ (Heap.get?_push_of_some _ x)⟩
/-- the tuple at a as it stands at each turn, each item in a new pair with its place -/
def IteT (K : PySem.W.Frag) (a : Addr) : It where
  go := fun i H => ∃ xs x, SqT K H a xs ∧ xs[i]? = some x
  yld := fun i H v H' => ∃ T x, v = .ref T ∧ H T = none ∧ H' = upd H T (.tup [.int (i : Nat), x]) ∧ ∀ us, SqT K H a us → us[i]? = some x
  stop := fun i H => ∃ xs, SqT K H a xs ∧ i = xs.length
section
variable {P : Program} {w : World} {K : PySem.W.Frag} {es : List Expr} {n : Nat} {tp : Pos}
theorem turn_enumT {a e t : Addr} (ne : e ≠ t) (na : a ≠ t) (ae : a ≠ e) : Turn P w K (.Tuple es n tp) (IteT K a) [e, t] e (fun k h => (∃ old, IsEnum h e t (k : Int) old) ∧ h.IsTupleIter t a k) := by
  refine { mem := by simp, obj := ?obj, keep := ?keep, item := ?item, done := ?done, self := fun _ _ _ _ _ st h => let ⟨⟨_, q⟩, _⟩ := st; wpAny_pyIter_enum q h }
  case obj =>
    rintro k h ⟨⟨old, s1⟩, ⟨o1, p1, _, p2⟩⟩ c hc
    rcases List.mem_cons.mp hc with rfl | hc
    · exact ⟨_, s1, fun v q => nomatch q⟩
    · rw [List.mem_singleton.mp hc]
      exact ⟨o1, p1, fun v q => by rw [p2] at q; cases q⟩
  case keep =>
    rintro k h h' ⟨⟨old, s1⟩, s2⟩ kp
    exact ⟨⟨old, kp e (by simp) _ s1⟩, s2.at fun _ q => kp t (by simp) _ q⟩
  case item =>
    rintro X rfl rfl rfl hc k pins s σ H E I hf ⟨⟨old, s1⟩, s2⟩ ⟨xs, x, qx, gx⟩
    obtain ⟨its, r1, p1, _⟩ := I.tuple qx
    obtain ⟨w1, f1, rw1⟩ := r1.get gx
    have b1 : k < its.toArray.size := by rw [List.size_toArray]; exact (List.getElem?_eq_some_iff.mp f1).1
    have hh : X.A.in1.handled = none := I.ok.hd hc
    have elt := Heap.lt_size s1
    have hef : e ∉ [t, a] := fun hm => by
      rcases List.mem_cons.mp hm with q | q
      · exact ne q
      · exact ae (List.mem_singleton.mp q).symm
    refine wpAny_pyNext_enum_itemD (Draws.tuple hh t a na its.toArray) s1 ⟨s2, p1⟩ b1 ne hef fun x1 h' tk hP ho hs' hT hsz hk => ?_
    have ex1 : x1 = w1 := by
      have : its[k]? = some x1 := by simpa using hP
      rw [f1] at this; exact (Option.some.inj this).symm
    subst ex1
    refine ⟨_, rfl, wpAny_letOwnedTupleGo_enum (s := { s with heap := h', toks := tk + 1 }) ho fun h2 he2 sb => ?_⟩
    have g2 : ∀ c ob, c ≠ e → h'.get? c = some ob → h2.get? c = some ob := fun c ob nc q => (sb.2 c nc).trans q
    have T2 := g2 _ _ (Nat.ne_of_gt elt) hT
    have nw : ObjOk X.prog X.w (upd H s.heap.objs.size (.tup [.int (k : Nat), x])) h2 s.heap.objs.size (.tup [.int (k : Nat), x]) := ⟨(by show 2 ≤ sizeLine; decide), [.int k tk, x1], .cons ⟨_, rfl⟩ (.cons rw1 .nil), ⟨_, T2, rfl, _, rfl⟩⟩
    have I1 : Inv X pins σ (upd H s.heap.objs.size (.tup [.int (k : Nat), x])) { s with heap := h2, toks := tk + 1 } := I.turnedNew (ch := [e, t]) (fun c ob hb q => by
      have n1 : c ≠ e := fun z => hb (by simp [z])
      have n2 : c ≠ t := fun z => hb (by simp [z])
      exact g2 _ _ n1 (hk c ob n1 n2 q)) hf (Nat.le_refl _) nw
    refine ⟨.ref s.heap.objs.size, _, I1, rfl, ⟨_, x, rfl, I.hok.fresh (Nat.le_refl _), rfl, fun us hu => by rw [I.tuple_inj hu qx]; exact gx⟩, ⟨⟨x1, ?_⟩, hs'.1.at fun _ q => g2 _ _ (Ne.symm ne) q⟩, fun c hcm => ?_⟩
    · have e1 : ((k + 1 : Nat) : Int) = (k : Int) + 1 := by omega
      rw [e1]; exact he2
    · have lt : c < s.heap.objs.size := by
        rcases List.mem_cons.mp hcm with rfl | hcm
        · exact elt
        · rw [List.mem_singleton.mp hcm]
          obtain ⟨_, q, _⟩ := s2; exact Heap.lt_size q
      rw [upd_ne (Nat.ne_of_lt lt)]
      exact (hf c hcm).1
  case done =>
    rintro X rfl rfl rfl hc k pins s σ H E I hf ⟨⟨old, s1⟩, s2⟩ ⟨xs, qx, l1⟩
    obtain ⟨its, r1, p1, _⟩ := I.tuple qx
    have n1 : its.toArray.size = xs.length := by rw [List.size_toArray]; exact r1.length.symm
    have hh : X.A.in1.handled = none := I.ok.hd hc
    have s2' : s.heap.IsTupleIter t a its.toArray.size := by rw [n1, ← l1]; exact s2
    refine wpAny_pyNext_enum_endD (Draws.tuple hh t a na its.toArray) s1 ⟨s2', p1⟩ fun h' kp => ⟨rfl, I.turnedL (ch := [e, t]) (fun c ob hb q => ?_) hf⟩
    exact kp c ob (fun z => hb (by simp [z])) q
end
def iEnumT (K : PySem.W.Frag) (ta : TA) : TI := fun σ H R => ta σ H fun vs H1 => ∃ a xs, vs = [.ref a] ∧ SqT K H1 a xs ∧ R (IteT K a) H1
theorem pi_enumT {X : Cx} {e : Expr} {ta : TA} {p pos tp : Pos} {es : List Expr} {n : Nat} (hg : Gl X "enumerate") (hm : X.mg "enumerate" = none) (ha : PA X [e] ta) (hs : starEach [e] X.env = [(false, eval e X.env)] := by rfl) : PI X (.Tuple es n tp) (.Call (.Name "enumerate" p) [e] [] pos) (iEnumT X.K ta) := by
  constructor
  intro pins s σ H R I h
  refine Call_ (ld_blt I hg hm boot_enumerate (PyProof.Rows.callWith_type1 (thn (ha.run pos pins s σ H _ I h) ?_) hs rfl))
  rintro us s1 ⟨vs, H1, I1, r1, a, xs, rfl, qx, q⟩
  obtain ⟨v1, rfl, rv1⟩ := vals1 r1
  cases rv1
  obtain ⟨its, _, p1, _⟩ := I1.tuple qx
  have alt : a < s1.heap.objs.size := by obtain ⟨_, g1, _⟩ := id p1; exact Heap.lt_size g1
  refine call_enum1 (begins_tuple a its.toArray) p1 fun h' he hit kp => wpAny_pyIter_enum he ?_
  refine ⟨s1.heap.objs.size + 1, [s1.heap.objs.size + 1, s1.heap.objs.size], _, _, H1, rfl, I1.kept (t' := s1.toks) kp, turn_enumT (Nat.succ_ne_self _) (Nat.ne_of_lt alt) (Nat.ne_of_lt (Nat.lt_succ_of_lt alt)), ⟨⟨.none, he⟩, ⟨_, hit, rfl, rfl⟩⟩, fun c hc => ?_, q⟩
  have le : s1.heap.objs.size ≤ c := by
    rcases List.mem_cons.mp hc with rfl | hc
    · exact Nat.le_add_right _ _
    · rw [List.mem_singleton.mp hc]; exact Nat.le_refl _
  exact I1.fpOk le (I1.hok.fresh le)
/-- a loop over enumerate of a tuple -/
theorem for_enumT {K : PySem.W.Frag} {a : Addr} {xs : List V} {g : TG} {tb : TS} {D : Ends} {σ : L2.St} {H : Hp} (Pv : Nat → L2.St → Hp → Prop) (h0 : Pv 0 σ H) (hq : ∀ i σ H, Pv i σ H → SqT K H a xs)
    (hs : ∀ (i : Nat) (x : V) (T : Addr) (σ : L2.St) (H : Hp), xs[i]? = some x → Pv i σ H → H T = none → g (.ref T) σ (upd H T (.tup [.int (i : Nat), x])) fun σ2 H2 => tb { D with nx := Pv (i + 1), ct := Pv (i + 1), bk := D.nx } σ2 H2) (hd : ∀ σ H, Pv xs.length σ H → D.nx σ H) :
    ∃ W : Nat → Nat → L2.St → Hp → Prop, (∃ m, W 0 m σ H) ∧ ∀ i m σ H, W i m σ H → ((IteT K a).stop i H ∧ D.nx σ H) ∨ ((IteT K a).go i H ∧ ∃ N : L2.St → Hp → Prop, (∀ σ' H', N σ' H' → ∃ m', m' < m ∧ W (i + 1) m' σ' H') ∧ ∀ v H', (IteT K a).yld i H v H' → g v σ H' fun σ2 H2 => tb { D with nx := N, ct := N, bk := D.nx } σ2 H2) := by
  refine ⟨fun i m σ H => m = xs.length - i ∧ i ≤ xs.length ∧ Pv i σ H, ⟨_, rfl, Nat.zero_le _, h0⟩, ?_⟩
  rintro i m σ H ⟨rfl, hi, p⟩
  have qx := hq i σ H p
  by_cases hlt : i < xs.length
  · refine .inr ⟨⟨xs, xs[i], qx, List.getElem?_eq_getElem hlt⟩, Pv (i + 1), fun σ' H' p' => ⟨_, by omega, rfl, hlt, p'⟩, ?_⟩
    rintro v H' ⟨T, x', rfl, hT, rfl, f1⟩
    exact hs i x' T σ H (f1 xs qx) p hT
  · obtain rfl : i = xs.length := by omega
    exact .inl ⟨⟨xs, qx, rfl⟩, hd σ H p⟩
/-- a loop over enumerate of a list -/
theorem for_enumL {K : PySem.W.Frag} {a : Addr} {xs : List V} {g : TG} {tb : TS} {D : Ends} {σ : L2.St} {H : Hp} (Pv : Nat → L2.St → Hp → Prop) (h0 : Pv 0 σ H) (hq : ∀ i σ H, Pv i σ H → SqL K H a xs)
    (hs : ∀ (i : Nat) (x : V) (T : Addr) (σ : L2.St) (H : Hp), xs[i]? = some x → Pv i σ H → H T = none → g (.ref T) σ (upd H T (.tup [.int (i : Nat), x])) fun σ2 H2 => tb { D with nx := Pv (i + 1), ct := Pv (i + 1), bk := D.nx } σ2 H2) (hd : ∀ σ H, Pv xs.length σ H → D.nx σ H) :
    ∃ W : Nat → Nat → L2.St → Hp → Prop, (∃ m, W 0 m σ H) ∧ ∀ i m σ H, W i m σ H → ((Ite K a).stop i H ∧ D.nx σ H) ∨ ((Ite K a).go i H ∧ ∃ N : L2.St → Hp → Prop, (∀ σ' H', N σ' H' → ∃ m', m' < m ∧ W (i + 1) m' σ' H') ∧ ∀ v H', (Ite K a).yld i H v H' → g v σ H' fun σ2 H2 => tb { D with nx := N, ct := N, bk := D.nx } σ2 H2) := by
  refine ⟨fun i m σ H => m = xs.length - i ∧ i ≤ xs.length ∧ Pv i σ H, ⟨_, rfl, Nat.zero_le _, h0⟩, ?_⟩
  rintro i m σ H ⟨rfl, hi, p⟩
  have qx := hq i σ H p
  by_cases hlt : i < xs.length
  · refine .inr ⟨⟨xs, xs[i], qx, List.getElem?_eq_getElem hlt⟩, Pv (i + 1), fun σ' H' p' => ⟨_, by omega, rfl, hlt, p'⟩, ?_⟩
    rintro v H' ⟨T, x', rfl, hT, rfl, f1⟩
    exact hs i x' T σ H (f1 xs qx) p hT
  · obtain rfl : i = xs.length := by omega
    exact .inl ⟨⟨xs, qx, Nat.le_refl _⟩, hd σ H p⟩
theorem iteT' {c : Bool} {A B : Prop} (e : c = true) (h : A) : if c = true then A else B := by rw [if_pos e]; exact h
theorem iteF' {c : Bool} {A B : Prop} (e : c = false) (h : B) : if c = true then A else B := by rw [if_neg (by rw [e]; decide)]; exact h
end KG

/-! whole numbers as words: what is written for an int, and which words are read -/
namespace KG
open PySem PySem.Spec PyProof.Rows L2
open NumText (AllDigits digitsVal)
def numS (n : Int) : Str := toString n
def dec : List Nat := ("0123456789" : Str).cps.toList
def digs (x : Str) : Str := if cutS x none (some 1) = "-" then cutS x (some 1) none else x
def isWhole (x : Str) : Bool := decide (1 ≤ (digs x).length) && decide ((digs x).length ≤ 30) && (digs x).cps.toList.all (fun c => decide (c ∈ dec)) && (decide (x = "0") || decide ((digs x).cps[0]? ≠ some 48))
theorem cutS_le (z : Str) (lo hi : Option Int) : (cutS z lo hi).length ≤ z.length := by
  show ((z.cps.toList.drop _).take _).toArray.size ≤ z.cps.size
  rw [List.size_toArray, List.length_take, List.length_drop, Array.length_toList]
  omega
theorem digs_le (x : Str) : (digs x).length ≤ x.length := by
  unfold digs
  split
  · exact cutS_le _ _ _
  · exact Nat.le_refl _
/-! signs -/
def bodyL : List Nat → List Nat
  | 45 :: r => r
  | l => l
theorem tl_cut1 (x : Str) : TL.tl (cutS x none (some 1)) = (TL.tl x).take 1 := by
  show ((x.cps.toList.drop 0).take (min 1 x.length - 0)) = _
  rw [List.drop_zero, Nat.sub_zero]
  show x.cps.toList.take (min 1 x.cps.size) = x.cps.toList.take 1
  rw [← Array.length_toList]
  rcases x.cps.toList with _ | ⟨a, r⟩
  · rfl
  · rw [List.length_cons, Nat.min_eq_left (by omega)]
theorem tl_from1 (x : Str) : TL.tl (cutS x (some 1) none) = (TL.tl x).drop 1 := by
  show ((x.cps.toList.drop (min 1 x.length)).take (x.length - min 1 x.length)) = _
  show ((x.cps.toList.drop (min 1 x.cps.size)).take (x.cps.size - min 1 x.cps.size)) = x.cps.toList.drop 1
  rw [← Array.length_toList]
  rcases x.cps.toList with _ | ⟨a, r⟩
  · rfl
  · rw [List.length_cons, Nat.min_eq_left (by omega)]
    exact List.take_of_length_le (by rw [List.length_drop, List.length_cons]; omega)
theorem tl_minus : TL.tl "-" = [45] := by decide +kernel
theorem tl_zero : TL.tl "0" = [48] := by decide +kernel
theorem tl_digs (x : Str) : TL.tl (digs x) = bodyL (TL.tl x) := by
  unfold digs
  by_cases h : cutS x none (some 1) = "-"
  · rw [if_pos h, tl_from1]
    have e := congrArg TL.tl h
    rw [tl_cut1, tl_minus] at e
    rcases hx : TL.tl x with _ | ⟨a, r⟩
    · rfl
    · rw [hx] at e
      obtain rfl : a = 45 := (List.cons.inj e).1
      rfl
  · rw [if_neg h]
    rcases hx : TL.tl x with _ | ⟨a, r⟩
    · rfl
    · have na : a ≠ 45 := fun z => h (TL.ext_tl (by rw [tl_cut1, hx, z, tl_minus]; rfl))
      unfold bodyL
      split
      · rename_i q
        exact absurd (List.cons.inj q).1 na
      · rfl
theorem mem_dec {c : Nat} : c ∈ dec ↔ 48 ≤ c ∧ c ≤ 57 := by
  rw [show dec = [48, 49, 50, 51, 52, 53, 54, 55, 56, 57] by decide +kernel]
  constructor
  · intro h
    simp at h
    omega
  · intro h
    simp
    omega
def canon (l : List Nat) : Prop := bodyL l ≠ [] ∧ (bodyL l).length ≤ 30 ∧ AllDigits (bodyL l) ∧ (l = [48] ∨ (bodyL l).head? ≠ some 48)
theorem whole_iff (x : Str) : isWhole x = true ↔ canon (TL.tl x) := by
  have l1 : (digs x).length = (bodyL (TL.tl x)).length := by rw [TL.len_tl, tl_digs]
  have l2 : (digs x).cps.toList = bodyL (TL.tl x) := tl_digs x
  have l3 : (digs x).cps[0]? = (bodyL (TL.tl x)).head? := by rw [← Array.getElem?_toList, l2, List.head?_eq_getElem?]
  have l4 : x = "0" ↔ TL.tl x = [48] := ⟨fun h => by rw [h, tl_zero], fun h => TL.ext_tl (by rw [h, tl_zero])⟩
  unfold isWhole canon
  rw [l1, l2, l3]
  simp only [Bool.and_eq_true, Bool.or_eq_true, decide_eq_true_eq, List.all_eq_true, l4]
  constructor
  · rintro ⟨⟨⟨h1, h2⟩, h3⟩, h4⟩
    exact ⟨fun e => by rw [e] at h1; exact absurd h1 (by decide), h2, fun c hc => mem_dec.mp (h3 c hc), h4⟩
  · rintro ⟨h1, h2, h3, h4⟩
    exact ⟨⟨⟨List.length_pos_iff.mpr h1, h2⟩, fun c hc => mem_dec.mpr (h3 c hc)⟩, h4⟩
theorem val_snoc (l : List Nat) (c : Nat) : digitsVal (l ++ [c]) = digitsVal l * 10 + (c - 48) := by
  unfold digitsVal
  rw [List.foldl_append]; rfl
theorem val_mono : ∀ (l : List Nat) (a : Nat), a ≤ l.foldl (fun acc c => acc * 10 + (c - 48)) a
  | [], _ => Nat.le_refl _
  | c :: r, a => Nat.le_trans (by omega) (val_mono r (a * 10 + (c - 48)))
theorem val_pos {l : List Nat} (h : AllDigits l) (h1 : l ≠ []) (h2 : l.head? ≠ some 48) : 1 ≤ digitsVal l := by
  cases l with
  | nil => exact absurd rfl h1
  | cons c r =>
    have hc := h.head
    have : c ≠ 48 := fun z => h2 (by rw [z]; rfl)
    unfold digitsVal
    rw [List.foldl_cons]
    exact Nat.le_trans (by omega) (val_mono r _)
theorem val_lt : ∀ (n : Nat) (l : List Nat), l.length ≤ n → AllDigits l → digitsVal l < 10 ^ n := by
  intro n
  induction n with
  | zero =>
    intro l hl h
    have : l = [] := List.length_eq_zero_iff.mp (by omega)
    rw [this]; decide
  | succ n ih =>
    intro l hl h
    by_cases e : l = []
    · rw [e]; exact Nat.pos_of_ne_zero (by simp [digitsVal])
    · have hd := List.dropLast_concat_getLast e
      have hc := h (l.getLast e) (List.getLast_mem e)
      have h1 := ih l.dropLast (by rw [List.length_dropLast]; omega) (fun c hc => h c (List.dropLast_subset _ hc))
      rw [← hd, val_snoc, Nat.pow_succ]
      omega
theorem num_val : ∀ (n : Nat) (l : List Nat), l.length ≤ n → AllDigits l → l ≠ [] → (l = [48] ∨ l.head? ≠ some 48) → TL.numL (digitsVal l) = l := by
  intro n
  induction n with
  | zero =>
    intro l hl h h1
    exact absurd (List.length_eq_zero_iff.mp (by omega)) h1
  | succ n ih =>
    intro l hl h h1 h2
    have hd := List.dropLast_concat_getLast h1
    have hc := h (l.getLast h1) (List.getLast_mem h1)
    generalize l.getLast h1 = c at hd hc
    generalize hr : l.dropLast = r at hd
    have lr : r.length ≤ n := by rw [← hr, List.length_dropLast]; omega
    have hrd : AllDigits r := fun d q => h d (by rw [← hd]; exact List.mem_append_left _ q)
    rw [← hd, val_snoc]
    cases r with
    | nil =>
      show TL.numL (0 * 10 + (c - 48)) = [c]
      rw [TL.numL_lt (by omega)]
      congr 1; omega
    | cons a q =>
      have h3 : (a :: q).head? ≠ some 48 := by
        rcases h2 with h2 | h2
        · rw [← hd] at h2
          exact absurd (congrArg List.length h2) (by simp)
        · rw [← hd] at h2
          exact h2
      have hp := val_pos hrd (by simp) h3
      rw [TL.numL_step (by omega), show (digitsVal (a :: q) * 10 + (c - 48)) / 10 = digitsVal (a :: q) by omega, show 48 + (digitsVal (a :: q) * 10 + (c - 48)) % 10 = c by omega, ih _ lr hrd (by simp) (.inr h3)]
def signs (n : Int) : List Nat := if n < 0 then 45 :: TL.numL n.natAbs else TL.numL n.natAbs
theorem tl_numS (n : Int) : TL.tl (numS n) = signs n := by
  unfold signs
  by_cases h : n < 0
  · rw [if_pos h]
    obtain ⟨m, rfl⟩ : ∃ m : Nat, n = Int.negSucc m := ⟨(-n - 1).toNat, by omega⟩
    have e : toString (Int.negSucc m) = "-" ++ toString (((m + 1 : Nat) : Int)) := rfl
    show (Str.ofString (toString (Int.negSucc m))).cps.toList = _
    rw [e]
    have e2 : ∀ a b : String, (Str.ofString (a ++ b)).cps.toList = (Str.ofString a).cps.toList ++ (Str.ofString b).cps.toList := fun a b => by
      rw [Str.ofString_eq_toList, Str.ofString_eq_toList, Str.ofString_eq_toList]
      show (a ++ b).toList.map Char.toNat = a.toList.map Char.toNat ++ b.toList.map Char.toNat
      rw [String.toList_append, List.map_append]
    rw [e2]
    show _ ++ TL.tl (Str.ofString (toString (((m + 1 : Nat) : Int)))) = _
    rw [TL.tl_num]; rfl
  · rw [if_neg h]
    obtain ⟨m, rfl⟩ := Int.eq_ofNat_of_zero_le (show 0 ≤ n by omega)
    exact TL.tl_num m
theorem numL_head {n : Nat} (h : n ≠ 0) : (TL.numL n).head? ≠ some 48 := by
  induction n using Nat.strongRecOn with
  | _ n ih =>
    by_cases h1 : n < 10
    · rw [TL.numL_lt h1]
      intro z
      have := Option.some.inj z
      omega
    · rw [TL.numL_step (by omega), List.head?_append]
      have := ih (n / 10) (by omega) (by omega)
      cases hq : (TL.numL (n / 10)).head? with
      | none => exact absurd (List.head?_eq_none_iff.mp hq) (TL.numL_ne _)
      | some z =>
        rw [hq] at this
        exact this
theorem bodyL_num (n : Nat) : bodyL (TL.numL n) = TL.numL n := by
  unfold bodyL
  split
  · rename_i r q
    exact absurd (show 45 ∈ TL.numL n by rw [q]; exact List.mem_cons_self) (TL.numL_free (.inl (by decide)))
  · rfl
theorem body_signs (n : Int) : bodyL (signs n) = TL.numL n.natAbs := by
  unfold signs
  by_cases h : n < 0
  · rw [if_pos h]; rfl
  · rw [if_neg h]; exact bodyL_num _
theorem canon_signs {n : Int} (h : n.natAbs < 10 ^ 30) : canon (signs n) := by
  unfold canon
  rw [body_signs]
  refine ⟨TL.numL_ne _, TL.numL_len (by decide) h, TL.numL_digits _, ?_⟩
  by_cases h0 : n = 0
  · rw [h0]; exact .inl (by decide +kernel)
  · exact .inr (numL_head (by omega))
theorem whole_num {n : Int} (h : n.natAbs < 10 ^ 30) : isWhole (numS n) = true := (whole_iff _).mpr (by rw [tl_numS]; exact canon_signs h)
theorem canon_read {x : Str} (h : isWhole x = true) : ∃ n : Int, intText? x = some n ∧ numS n = x ∧ n.natAbs < 10 ^ 30 ∧ x.length ≤ 31 := by
  obtain ⟨h1, h2, h3, h4⟩ := (whole_iff x).mp h
  have hv := val_lt 30 _ h2 h3
  by_cases hm : ∃ r, TL.tl x = 45 :: r
  · obtain ⟨r, hr⟩ := hm
    have hb : bodyL (TL.tl x) = r := by rw [hr]; rfl
    rw [hb] at h1 h2 h3 h4 hv
    have h4' : r.head? ≠ some 48 := by
      rcases h4 with h4 | h4
      · rw [hr] at h4
        exact absurd (List.cons.inj h4).1 (by decide)
      · exact h4
    have lx : x.length = r.length + 1 := by rw [TL.len_tl, hr, List.length_cons]
    have hp := val_pos h3 h1 h4'
    refine ⟨_, intText_neg hr h3 h1 (by omega), TL.ext_tl ?_, by omega, by omega⟩
    rw [tl_numS, signs, if_pos (by omega), hr, show (-((digitsVal r : Nat) : Int)).natAbs = digitsVal r by omega, num_val 30 r h2 h3 h1 (.inr h4')]
  · have hb : bodyL (TL.tl x) = TL.tl x := by
      unfold bodyL
      split
      · rename_i r q
        exact absurd ⟨r, q⟩ hm
      · rfl
    rw [hb] at h1 h2 h3 h4 hv
    have lx : x.length = (TL.tl x).length := TL.len_tl x
    refine ⟨_, intText_digits h3 h1 (by omega), TL.ext_tl ?_, by show ((digitsVal (TL.tl x) : Nat) : Int).natAbs < _; omega, by omega⟩
    rw [tl_numS, signs, if_neg (by show ¬ ((digitsVal (TL.tl x) : Nat) : Int) < 0; omega)]
    show TL.numL (digitsVal (TL.tl x)) = _
    exact num_val 30 _ h2 h3 h1 h4
theorem numS_inj {m n : Int} (h : numS m = numS n) : m = n := by
  have e := congrArg TL.tl h
  rw [tl_numS, tl_numS] at e
  have e2 := congrArg bodyL e
  rw [body_signs, body_signs] at e2
  have e3 := TL.numL_inj e2
  unfold signs at e
  by_cases h1 : m < 0 <;> by_cases h2 : n < 0
  · omega
  · rw [if_pos h1, if_neg h2] at e
    exact absurd (show 45 ∈ TL.numL n.natAbs by rw [← e]; exact List.mem_cons_self) (TL.numL_free (.inl (by decide)))
  · rw [if_neg h1, if_pos h2] at e
    exact absurd (show 45 ∈ TL.numL m.natAbs by rw [e]; exact List.mem_cons_self) (TL.numL_free (.inl (by decide)))
  · omega
theorem read_num {n : Int} (h : n.natAbs < 10 ^ 30) : intText? (numS n) = some n := by
  obtain ⟨m, h1, h2, _⟩ := canon_read (whole_num h)
  rw [h1, numS_inj h2]
theorem removeprefix_digs (x : Str) : Txt.removeprefix x "-" = digs x := by
  apply TL.ext_tl
  rw [tl_digs]
  unfold Txt.removeprefix
  have lm : ("-" : Str).length = 1 := by decide +kernel
  have es : Builtin.Str.subAt x "-" 0 = decide ((TL.tl x).take 1 = [45]) := by
    rw [StrLaws.subAt_eq, List.drop_zero, lm]
    show ((TL.tl x).take 1 == TL.tl "-") = _
    rw [tl_minus, Bool.eq_iff_iff]; simp
  rw [es, lm]
  rcases hx : TL.tl x with _ | ⟨a, r⟩
  · show TL.tl x = []
    exact hx
  · have lx : x.length = r.length + 1 := by rw [TL.len_tl, hx, List.length_cons]
    by_cases h : a = 45
    · subst h
      rw [if_pos (by simp)]
      show TL.tl (if x.length - 1 == x.length then x else Builtin.Str.strSub x 1 x.length) = r
      rw [if_neg (by rw [beq_iff_eq]; omega)]
      show (Builtin.Str.strSub x 1 x.length).cps.toList = r
      rw [StrLaws.strSub_toList]
      show ((TL.tl x).drop 1).take (x.length - 1) = r
      rw [hx, lx]
      exact List.take_of_length_le (by simp)
    · rw [if_neg (by simp [h])]
      show TL.tl x = bodyL (a :: r)
      rw [hx]
      unfold bodyL
      split
      · rename_i q
        exact absurd (List.cons.inj q).1 h
      · rfl
end KG

/-! what split and join give: never nothing, no new signs, no longer word -/
namespace KG
open PySem PySem.Spec PyProof.Rows L2
theorem spl_ne (S : List Nat) : ∀ (r : List Nat) (k : Nat) (acc : List Nat), TL.spl S k acc r ≠ []
  | [], k, acc => by rw [TL.spl_nil]; exact List.cons_ne_nil _ _
  | c :: r, 0, acc => by
    show (if TL.pre S (c :: r) = true then acc :: TL.spl S (S.length - 1) [] r else TL.spl S 0 (acc ++ [c]) r) ≠ []
    by_cases h : TL.pre S (c :: r) = true
    · rw [if_pos h]; exact List.cons_ne_nil _ _
    · rw [if_neg h]; exact spl_ne S r 0 _
  | _ :: r, k + 1, acc => spl_ne S r k acc
theorem spl_len (S : List Nat) : ∀ (r : List Nat) (k : Nat) (acc : List Nat), ∀ p ∈ TL.spl S k acc r, p.length ≤ acc.length + r.length
  | [], k, acc => by
    intro p hp
    rw [TL.spl_nil] at hp
    rw [List.mem_singleton.mp hp]; exact Nat.le_add_right _ _
  | c :: r, 0, acc => by
    intro p hp
    have hp : p ∈ (if TL.pre S (c :: r) = true then acc :: TL.spl S (S.length - 1) [] r else TL.spl S 0 (acc ++ [c]) r) := hp
    by_cases h : TL.pre S (c :: r) = true
    · rw [if_pos h] at hp
      rcases List.mem_cons.mp hp with h | h
      · rw [h]; exact Nat.le_add_right _ _
      · have := spl_len S r _ _ p h
        rw [List.length_nil] at this
        rw [List.length_cons]; omega
    · rw [if_neg h] at hp
      have := spl_len S r _ _ p hp
      rw [List.length_append, List.length_singleton] at this
      rw [List.length_cons]; omega
  | _ :: r, k + 1, acc => by
    intro p hp
    have := spl_len S r k acc p hp
    rw [List.length_cons]; omega
theorem spl_mem (S : List Nat) : ∀ (r : List Nat) (k : Nat) (acc : List Nat), ∀ p ∈ TL.spl S k acc r, ∀ c ∈ p, c ∈ acc ∨ c ∈ r
  | [], k, acc => by
    intro p hp c hc
    rw [TL.spl_nil] at hp
    rw [List.mem_singleton.mp hp] at hc; exact .inl hc
  | d :: r, 0, acc => by
    intro p hp c hc
    have hp : p ∈ (if TL.pre S (d :: r) = true then acc :: TL.spl S (S.length - 1) [] r else TL.spl S 0 (acc ++ [d]) r) := hp
    by_cases h : TL.pre S (d :: r) = true
    · rw [if_pos h] at hp
      rcases List.mem_cons.mp hp with h | h
      · rw [h] at hc; exact .inl hc
      · rcases spl_mem S r _ _ p h c hc with h | h
        · cases h
        · exact .inr (List.mem_cons_of_mem _ h)
    · rw [if_neg h] at hp
      rcases spl_mem S r _ _ p hp c hc with h | h
      · rcases List.mem_append.mp h with h | h
        · exact .inl h
        · rw [List.mem_singleton.mp h]; exact .inr List.mem_cons_self
      · exact .inr (List.mem_cons_of_mem _ h)
  | _ :: r, k + 1, acc => by
    intro p hp c hc
    rcases spl_mem S r k acc p hp c hc with h | h
    · exact .inl h
    · exact .inr (List.mem_cons_of_mem _ h)
theorem spl_count (S : List Nat) : ∀ (r : List Nat) (k : Nat) (acc : List Nat), (TL.spl S k acc r).length ≤ r.length + 1
  | [], k, acc => by rw [TL.spl_nil]; exact Nat.le_refl _
  | c :: r, 0, acc => by
    show (if TL.pre S (c :: r) = true then acc :: TL.spl S (S.length - 1) [] r else TL.spl S 0 (acc ++ [c]) r).length ≤ _
    by_cases h : TL.pre S (c :: r) = true
    · rw [if_pos h, List.length_cons, List.length_cons]
      have := spl_count S r (S.length - 1) []
      omega
    · rw [if_neg h, List.length_cons]
      have := spl_count S r 0 (acc ++ [c])
      omega
  | _ :: r, k + 1, acc => by
    have := spl_count S r k acc
    rw [List.length_cons]; exact Nat.le_succ_of_le this
/-- a separator of one plain sign -/
structure Sep (y : Str) (s : Nat) : Prop where
  tl : TL.tl y = [s]
  lo : y.cps.all (· < 256) = true
theorem sep_blank : Sep " " 32 := ⟨by decide +kernel, by decide +kernel⟩
theorem sep_line : Sep "\n" 10 := ⟨by decide +kernel, by decide +kernel⟩
section
variable {y : Str} {s : Nat}
theorem Sep.split (h : Sep y s) (x : Str) : (Txt.split x y).map TL.tl = TL.spl [s] 0 [] (TL.tl x) := by
  rw [← h.tl]
  exact TL.split_spl x y (by rw [h.tl]; exact List.cons_ne_nil _ _) (TL.kind_ok h.lo)
theorem Sep.ne (h : Sep y s) (x : Str) : Txt.split x y ≠ [] := fun e => spl_ne [s] (TL.tl x) 0 [] (by rw [← h.split, e]; rfl)
theorem Sep.len (h : Sep y s) (x : Str) : ∀ p ∈ Txt.split x y, p.length ≤ x.length := fun p hp => by
  have q := spl_len [s] (TL.tl x) 0 [] (TL.tl p) (by rw [← h.split]; exact List.mem_map_of_mem hp)
  rw [TL.len_tl, TL.len_tl]
  simpa using q
theorem Sep.mem (h : Sep y s) (x : Str) : ∀ p ∈ Txt.split x y, ∀ c ∈ TL.tl p, c ∈ TL.tl x := fun p hp c hc => by
  rcases spl_mem [s] (TL.tl x) 0 [] (TL.tl p) (by rw [← h.split]; exact List.mem_map_of_mem hp) c hc with q | q
  · cases q
  · exact q
theorem Sep.count (h : Sep y s) (x : Str) : (Txt.split x y).length ≤ x.length + 1 := by
  have q := spl_count [s] (TL.tl x) 0 []
  rw [← h.split, List.length_map, ← TL.len_tl] at q
  exact q
theorem Sep.back (h : Sep y s) {parts : List Str} (hne : parts ≠ []) (hp : ∀ p ∈ parts, s ∉ TL.tl p) : Txt.split (Txt.join y parts) y = parts := TL.split_join h.tl h.lo hne hp
theorem join_of_split (x y : Str) : Txt.join y (Txt.split x y) = x := by rw [TL.join_eq]; exact StrLaws.join_split x y
theorem joinL_mem {S : List Nat} : ∀ {ps : List (List Nat)}, ∀ c ∈ TL.joinL S ps, c ∈ S ∨ ∃ p ∈ ps, c ∈ p
  | [], c, h => by cases h
  | [p], c, h => .inr ⟨p, List.mem_singleton.mpr rfl, h⟩
  | p :: q :: r, c, h => by
    have h : c ∈ p ++ (S ++ TL.joinL S (q :: r)) := h
    rcases List.mem_append.mp h with h | h
    · exact .inr ⟨p, List.mem_cons_self, h⟩
    rcases List.mem_append.mp h with h | h
    · exact .inl h
    rcases joinL_mem c h with h | ⟨z, hz, h⟩
    · exact .inl h
    · exact .inr ⟨z, List.mem_cons_of_mem _ hz, h⟩
theorem Sep.join_mem (h : Sep y s) (ps : List Str) : ∀ c ∈ TL.tl (Txt.join y ps), c = s ∨ ∃ p ∈ ps, c ∈ TL.tl p := fun c hc => by
  rw [TL.join_eq, TL.tl_join, h.tl] at hc
  rcases joinL_mem c hc with q | ⟨z, hz, q⟩
  · exact .inl (List.mem_singleton.mp q)
  · obtain ⟨p, hp, rfl⟩ := List.mem_map.mp hz
    exact .inr ⟨p, hp, q⟩
theorem joinL_len {s : Nat} : ∀ ps : List (List Nat), (TL.joinL [s] ps).length ≤ (ps.map (·.length)).sum + ps.length
  | [] => Nat.le_refl _
  | [p] => by simp [TL.joinL]
  | p :: q :: r => by
    have h := joinL_len (s := s) (q :: r)
    show (p ++ ([s] ++ TL.joinL [s] (q :: r))).length ≤ _
    rw [List.length_append, List.length_append, List.length_singleton, List.map_cons, List.sum_cons, List.length_cons]
    omega
theorem Sep.join_len (h : Sep y s) (ps : List Str) : (Txt.join y ps).length ≤ (ps.map (·.length)).sum + ps.length := by
  have q := joinL_len (s := s) (ps.map TL.tl)
  rw [List.map_map, List.length_map] at q
  rw [TL.join_eq, TL.len_tl, TL.tl_join, h.tl, show (ps.map (·.length)) = ps.map ((fun x => x.length) ∘ TL.tl) from List.map_congr_left fun p _ => TL.len_tl p]
  exact q
end
theorem sum_le {ps : List Str} {B : Nat} (h : ∀ p ∈ ps, p.length ≤ B) : (ps.map (·.length)).sum ≤ B * ps.length := by
  induction ps with
  | nil => exact Nat.zero_le _
  | cons p r ih =>
    rw [List.map_cons, List.sum_cons, List.length_cons, Nat.mul_succ]
    have h1 := h p List.mem_cons_self
    have h2 := ih fun q hq => h q (List.mem_cons_of_mem _ hq)
    omega
end KG

/-! d.get(text), d.get(text, x): d a dict of the module with texts for keys and ints for values -/
namespace KG
open PySem PySem.Spec PyProof.Rows L2
inductive EsAt (P : Params) : List DictEntry → List (Str × Int) → Prop
  | nil : EsAt P [] []
  | cons {k : Str} {v : Int} {t u : Tok} {l : List DictEntry} {r : List (Str × Int)} : EsAt P l r → EsAt P (⟨PyData.keyHash P k, .str k t, .int v u⟩ :: l) ((k, v) :: r)
def KDi (K : PySem.W.Frag) (w : World) (d : Addr) (kvs : List (Str × Int)) : Prop := ∃ es n, K.lookup d = some ⟨.type "dict", none, .dict es n, #[]⟩ ∧ EsAt w.params es.toList kvs ∧ (d == sysModules) = false
theorem EsAt.lit {P : Params} {l : List DictEntry} {r : List (Str × Int)} (h : EsAt P l r) : PySem.W.KeysLit P l := by
  induction h with
  | nil => trivial
  | cons _ ih => exact ⟨⟨_, _, rfl, rfl⟩, ih⟩
theorem EsAt.find {P : Params} {l : List DictEntry} {r : List (Str × Int)} (h : EsAt P l r) (z : Str) : ((r.lookup z = none ∧ (l.find? fun e => Value.isStrOf z e.key).map (·.val) = none) ∨ ∃ v u, r.lookup z = some v ∧ (l.find? fun e => Value.isStrOf z e.key).map (·.val) = some (.int v u)) := by
  induction h with
  | nil => exact .inl ⟨rfl, rfl⟩
  | @cons k v t u l r _ ih =>
    by_cases e : k = z
    · refine .inr ⟨v, u, ?_, ?_⟩
      · rw [List.lookup_cons, show (z == k) = true by rw [e]; exact beq_self_eq_true z]
      · rw [List.find?_cons, show Value.isStrOf z (Value.str k t) = true from by show (k == z) = true; rw [e]; exact beq_self_eq_true z]; rfl
    · have e1 : (z == k) = false := by rw [beq_eq_false_iff_ne]; exact fun q => e q.symm
      have e2 : (k == z) = false := by rw [beq_eq_false_iff_ne]; exact e
      rw [List.lookup_cons, e1, List.find?_cons, show Value.isStrOf z (Value.str k t) = false from e2]
      exact ih
def kdOr (kvs : List (Str × Int)) (z : Str) (d : V) : V := match kvs.lookup z with
  | some v => .int v
  | none => d
theorem KDi.found {K : PySem.W.Frag} {w : World} {d : Addr} {kvs : List (Str × Int)} (h : KDi K w d kvs) {X : Cx} {pins : List (Addr × Obj)} {σ : L2.St} {H : Hp} {s : Shared} (I : Inv X pins σ H s) (eK : X.K = K) (eW : X.w = w) (z : Str) :
    (d == sysModules) = false ∧ ∃ f, s.heap.MapOf (strKind X.prog X.w) d f ∧ (∀ (b : Value), Value.ref d = b → s.TypeIs b "dict" ∧ ∀ a, b = .ref a → ∃ ob, s.heap.get? a = some ob ∧ ob.dict = none) ∧ ∀ (df : V) (dv : Value), RelV df dv → RelV (kdOr kvs z df) ((f z).getD dv) := by
  subst eK eW
  obtain ⟨es, n, hl, he, low⟩ := h
  have hm := PySem.W.mapOf_K (prog := X.prog) (w := X.w) I.kIn hl he.lit
  refine ⟨low, _, hm, ?_, ?_⟩
  · rintro b rfl
    refine ⟨hm.typeIs, ?_⟩
    rintro a e
    cases e
    exact ⟨_, I.kIn _ _ hl, rfl⟩
  · intro df dv hd
    show RelV (kdOr kvs z df) (((es.find? fun e => Value.isStrOf z e.key).map (·.val)).getD dv)
    rw [← Array.find?_toList]
    unfold kdOr
    rcases he.find z with ⟨e1, e2⟩ | ⟨v, u, e1, e2⟩
    · rw [e1, e2]; exact hd
    · rw [e1, e2]; exact ⟨u, rfl⟩
def tKGet1 (K : PySem.W.Frag) (w : World) (td ty : TE) : TE := fun σ H Q => td σ H fun x H1 => ∃ a kvs, x = .ref a ∧ KDi K w a kvs ∧ ty σ H1 fun y H2 => ∃ z, y = .str z ∧ Q (kdOr kvs z .non) H2
def tKGet2 (K : PySem.W.Frag) (w : World) (td ty tx : TE) : TE := fun σ H Q => td σ H fun x H1 => ∃ a kvs, x = .ref a ∧ KDi K w a kvs ∧ ty σ H1 fun y H2 => tx σ H2 fun d H3 => ∃ z, y = .str z ∧ Q (kdOr kvs z d) H3
section
variable {X : Cx} {o e f : Expr} {apos cpos : Pos} {td ty tx : TE}
theorem pe_kget1 (ho : PE X o td) (he : PE X e ty) (m : M1 X o "get" apos e cpos) : PE X (.Call (.Attribute o "get" apos) [e] [] cpos) (tKGet1 X.K X.w td ty) := by
  constructor
  intro pins s σ H Q I h
  refine wpAny_Call_method m.base m.few m.line PySem.F.plainAttrs_dict PySem.F.slot_dict_get PySem.F.type_dict_get (thn (ho.run pins s σ H _ I h) ?_)
  rintro u s1 ⟨x, H1, I1, rx, a, kvs, rfl, d, q1⟩
  cases (show u = Value.ref a from rx)
  obtain ⟨_, _, _, t1, _⟩ := d.found I1 rfl rfl ""
  obtain ⟨t1, t2⟩ := t1 _ rfl
  refine ⟨t1, t2, ?_⟩
  rw [m.trees]
  refine Calls.callWith_builtin rfl (Calls.evalArgs_plain (Calls.spliced_cons (thn (he.run pins s1 σ H1 _ I1 q1) ?_)))
  rintro iv s2 ⟨y, H2, I2, ry, z, rfl, q2⟩
  refine Calls.spliced_nil ?_
  obtain ⟨t, rfl⟩ := ry
  obtain ⟨low, f, hm, _, hv⟩ := d.found I2 rfl rfl z
  exact call_meetsIn PySem.F.slot_dict_get hm.typeIs PySem.F.entry_dict_get (PySem.F.args_dict_get_2 _ _) (meets_dict_get (strKind X.prog X.w) a (strKind_is X.prog X.w z t) low) ⟨f, hm, _, H2, I2.tok _, hv .non .none rfl, q2⟩
theorem pe_kget2 (ho : PE X o td) (he : PE X e ty) (hf : PE X f tx) (m : M2 X o "get" apos e f cpos) : PE X (.Call (.Attribute o "get" apos) [e, f] [] cpos) (tKGet2 X.K X.w td ty tx) := by
  constructor
  intro pins s σ H Q I h
  refine wpAny_Call_method m.base m.few m.line PySem.F.plainAttrs_dict PySem.F.slot_dict_get PySem.F.type_dict_get (thn (ho.run pins s σ H _ I h) ?_)
  rintro u s1 ⟨x, H1, I1, rx, a, kvs, rfl, d, q1⟩
  cases (show u = Value.ref a from rx)
  obtain ⟨_, _, _, t1, _⟩ := d.found I1 rfl rfl ""
  obtain ⟨t1, t2⟩ := t1 _ rfl
  refine ⟨t1, t2, ?_⟩
  rw [m.trees]
  refine Calls.callWith_builtin rfl (Calls.evalArgs_plain (Calls.spliced_cons (thn (he.run pins s1 σ H1 _ I1 q1) ?_)))
  rintro iv s2 ⟨y, H2, I2, ry, q2⟩
  refine Calls.spliced_cons (thn (hf.run pins s2 σ H2 _ I2 q2) ?_)
  rintro fv s3 ⟨d3, H3, I3, r3, z, rfl, q3⟩
  refine Calls.spliced_nil ?_
  obtain ⟨t, rfl⟩ := ry
  obtain ⟨low, f, hm, _, hv⟩ := d.found I3 rfl rfl z
  exact call_meetsIn PySem.F.slot_dict_get hm.typeIs PySem.F.entry_dict_get (PySem.F.args_dict_get_3 _ _ _) (meets_dict_get_default (strKind X.prog X.w) a (strKind_is X.prog X.w z t) low fv) ⟨f, hm, _, H3, I3.tok _, hv d3 fv r3, q3⟩
end
end KG

/-! small things that the laws' own bodies share -/
namespace KG
open PySem PySem.Spec PyProof.Rows L2
theorem same_but {p : Addr} {H H1 H2 : Hp} (s : Same H H1) (b : But p H1 H2) (n : H p = none) : Same H H2 := fun c o e => b c o (fun z => by rw [z, n] at e; cases e) (s c o e)
theorem seqO {K : PySem.W.Frag} {p a : Addr} {H H1 : Hp} {xs : List V} (h : SqL K H a xs) (n : H p = none) (s : Same H H1) : SqO K H1 p a xs := fun o => Same.seq (same_put s n) h
theorem cut_one (xs : List V) : (cutV xs none (some 1)).length ≤ 1 := by
  unfold cutV
  rw [HT.sIx_none, List.length_take, show HT.sIx xs.length xs.length (some 1) = min 1 xs.length from HT.sIx_nat _ _ 1]
  omega
theorem ne_lists {K : PySem.W.Frag} {H : Hp} {a b : Addr} {r q : List Int} {Q : VK} (h1 : SqL K H a (r.map V.int)) (h2 : SqL K H b (q.map V.int)) (k : Q (.bl (!decide (r = q))) H) : rNeD K (.ref a) (.ref b) H Q :=
  ⟨_, _, .lst h1 (dp_all r), .lst h2 (dp_all q), shaped_l r, shaped_l q, by rw [eqv_l]; exact k⟩
theorem small_new {ss : List Stp} {m : Int} {s : Stp} (h : SNew ss m s) (hm : m < 2 ^ 1000) (hl : ss.length ≤ 100000) : ∀ n ∈ s.ns, n.natAbs.log2 < 1920 := by
  have lg : ∀ n : Int, n.natAbs < 2 ^ 1000 → n.natAbs.log2 < 1920 := fun n h => log_small (n := 1000) h (by decide) (by decide)
  have big : (100000 : Nat) < 2 ^ 1000 := by decide +kernel
  have hm' : ∀ n : Int, -m ≤ n → n ≤ m → n.natAbs < 2 ^ 1000 := fun n a b => by
    have e : ((2 ^ 1000 : Nat) : Int) = (2 : Int) ^ 1000 := by decide +kernel
    have h3 : (n.natAbs : Int) ≤ m := by omega
    have h4 : (n.natAbs : Int) < ((2 ^ 1000 : Nat) : Int) := by rw [e]; exact Int.lt_of_le_of_lt h3 hm
    exact Int.ofNat_lt.mp h4
  have nm : ∀ b i, Nm1 ss b i → i.natAbs < 2 ^ 1000 := fun b i ⟨h0, s, hs, _⟩ => by
    have := (List.getElem?_eq_some_iff.mp hs).1
    exact Nat.lt_of_lt_of_le (show i.natAbs < 100001 by omega) big
  rcases h with ⟨x, y, rfl, a, b, c, d⟩ | ⟨i, j, rfl, a, b⟩ | ⟨i, j, k, rfl, a, b, c⟩ | ⟨i, j, w, rfl, a, b, c, d⟩
  · intro n hn
    rcases List.mem_cons.mp hn with rfl | hn
    · exact lg _ (hm' _ a b)
    · rw [List.mem_singleton.mp hn]; exact lg _ (hm' _ c d)
  · intro n hn
    rcases List.mem_cons.mp hn with rfl | hn
    · exact lg _ (nm _ _ a)
    · rw [List.mem_singleton.mp hn]; exact lg _ (nm _ _ b)
  · intro n hn
    rcases List.mem_cons.mp hn with rfl | hn
    · exact lg _ (nm _ _ a)
    rcases List.mem_cons.mp hn with rfl | hn
    · exact lg _ (nm _ _ b)
    · rw [List.mem_singleton.mp hn]; exact lg _ (nm _ _ c)
  · intro n hn
    rcases List.mem_cons.mp hn with rfl | hn
    · exact lg _ (nm _ _ a)
    rcases List.mem_cons.mp hn with rfl | hn
    · exact lg _ (nm _ _ b)
    · rw [List.mem_singleton.mp hn]; exact lg _ (Nat.lt_of_lt_of_le (show w.natAbs < 100001 by omega) big)
/-- a def that may raise, asked where it doesn't -/
theorem quiet {P : Program} {w : World} {K : PySem.W.Frag} {mg : Str → Option Value} {base : Heap} {k : Nat} {f : Addr} {fd : FuncData} {ps : List Str} {sp : Sp} (F : FnOk P w K mg base (L2.CX P w) k f fd ps sp) : FnOk P w K mg base CX0 k f fd ps (fun vs H Q _ => sp vs H Q fun _ _ _ => False) :=
  ⟨fun vs H Q E q => F.len _ _ _ _ q, fun A outer s H args us vs Q E hr he hb hv hs => codeAny_mono (F.run A outer s H args us vs Q _ hr he hb hv hs) fun r s2 h => by
    match r, h with
    | .ok (.ret u), h => exact h
    | .ok .next, h => exact False.elim h
    | .ok .brk, h => exact False.elim h
    | .ok .cont, h => exact False.elim h
    | .error e, h =>
      obtain ⟨_, _, _, _, _, _, _, _, _, _, _, _, h⟩ := h
      exact False.elim h⟩
end KG

/-! lines of drawings -/
namespace KG
open PySem PySem.Spec PyProof.Rows L2
/-! the lines of steps -/
def lineOf (s : Stp) : Str := Txt.join " " (s.w :: s.ns.map numS)
def Small (s : Stp) : Prop := ∀ n ∈ s.ns, n.natAbs.log2 < 1920
def strG : V → V
  | .int n => .str (numS n)
  | v => v
theorem strG_all (w : Str) (ns : List Int) : [V.str w] ++ (ns.map V.int).map strG = (w :: ns.map numS).map V.str := by
  rw [List.map_cons, List.map_map, List.map_map]; rfl
theorem word_len : ∀ ns : List Int, (∀ n ∈ ns, n.natAbs.log2 < 1920) → ((ns.map numS).map (·.length)).sum ≤ 1921 * ns.length
  | [], _ => Nat.zero_le _
  | n :: ns, h => by
    have h1 : (numS n).length ≤ 1921 := int_text_len_1921 (h n (by simp))
    have h2 := word_len ns fun m hm => h m (by simp [hm])
    rw [List.map_cons, List.map_cons, List.sum_cons, List.length_cons]
    omega
theorem form_len {s : Stp} (h : SForm s) : s.w.length ≤ 6 ∧ s.ns.length ≤ 3 ∧ 2 ≤ s.ns.length := by
  rcases h with ⟨h, k⟩ | ⟨h, k⟩ | ⟨h, k⟩ | ⟨h, k⟩ <;> rw [h, k] <;> decide +kernel
def w0 (ws : List Str) : V := .str (ws.headD "")
def kind3 (ws : List Str) : Bool := inV (w0 ws) [.str "point", .str "line"] && decide (ws.length = 3)
def kind4 (ws : List Str) : Bool := inV (w0 ws) [.str "circle", .str "meet"] && decide (ws.length = 4)
def isLine (ws : List Str) : Bool := (kind3 ws || kind4 ws) && (ws.drop 1).all isWhole
def wholeG : V → V
  | .str x => .bl (isWhole x)
  | v => v
/-- as comp_list, where each step may lay new objects -/
theorem comp_listN {K : PySem.W.Frag} {a D : Addr} {xs : List V} {g : TG} {te : TE} {vs : List Nat} {σ : L2.St} {H1 : Hp} {Qd : Hp → Prop} (G : V → V) (hx : SqL K H1 a xs) (hD : H1 D = none) (hl : xs.length ≤ 1000)
    (hs : ∀ (i : Nat) (x : V) (H : Hp) (Nx : V → Hp → Prop), xs[i]? = some x → Same H1 H → (∀ H', Same H H' → Nx (G x) H') → g x (wipe σ vs) H fun σ2 H2 => wipe σ2 vs = wipe σ vs ∧ te σ2 H2 Nx)
    (hd : ∀ H, Same H1 H → H D = some (.lst (xs.map G)) → Qd H) :
    ∃ W : Nat → Nat → Hp → Prop, (∃ m, W 0 m (upd H1 D (.lst []))) ∧ ∀ i m H, W i m H →
      ((Itl K a).stop i H ∧ Qd H) ∨ ((Itl K a).go i H ∧ ∃ Nx : Hp → Prop, (∀ H', Nx H' → ∃ m', m' < m ∧ W (i + 1) m' H') ∧ ∀ x H', (Itl K a).yld i H x H' → g x (wipe σ vs) H' fun σ2 H2 => wipe σ2 vs = wipe σ vs ∧ tYes σ2 H2 fun b H3 =>
        if b = true then te σ2 H3 fun y H4 => ∃ acc, H4 D = some (.lst acc) ∧ acc.length < sizeLine ∧ Nx (upd H4 D (.lst (acc ++ [y]))) else Nx H3) := by
  refine lc_list (xs := xs) (fun i H => Same H1 H ∧ H D = some (.lst ((xs.take i).map G))) ⟨same_new hD _, upd_same⟩ (fun i H _ h => h.1.seq hx) (fun i x H hix h => ?_) (fun H h => hd H h.1 (by rw [h.2, List.take_length]))
  have hg := grown (H := H) (D := D) (G := G) hix hl
  have := hs i x H (fun y H4 => ∃ acc, H4 D = some (.lst acc) ∧ acc.length < sizeLine ∧ (Same H1 (upd H4 D (.lst (acc ++ [y]))) ∧ (upd H4 D (.lst (acc ++ [y]))) D = some (.lst ((xs.take (i + 1)).map G)))) hix h.1
    fun H' sm => ⟨_, sm _ _ h.2, hg.1, fun b o e => by rw [upd_ne (ne_of_none e hD)]; exact sm _ _ (h.1 b o e), by rw [upd_same, hg.2]⟩
  exact this
end KG

/-! rules that read the written part, said with its name: for use within a comprehension -/
namespace KG
open PySem PySem.Spec PyProof.Rows L2
def rJoin (K : PySem.W.Frag) : V → List V → Hp → VK → Prop := fun x xs H Q => ∃ a p, ∃ ys : List Str, x = .str a ∧ xs = [.ref p] ∧ (SqL K H p (ys.map V.str) ∨ SqT K H p (ys.map V.str)) ∧ (ys.map (·.length)).sum + ys.length * a.length ≤ 16777216 ∧ Q (.str (Txt.join a ys)) H
section
variable {X : Cx} {K : PySem.W.Frag}
theorem pe_joinK {o e : Expr} {to te : TE} {apos pos : Pos} (eK : X.K = K) (ho : PE X o to) (he : PE X e te) (hs : starEach [e] X.env = [(false, eval e X.env)] := by rfl) (hbase : attributeBase o "join" X.env (eval o X.env) = eval o X.env := by rfl) (hline : (apos.endLine == pos.line) = true := by rfl) :
    PE X (.Call (.Attribute o "join" apos) [e] [] pos) (tM1 (rJoin K) to te) := by subst eK; exact pe_join ho he hs hbase hline
theorem pi_tupK {tg e : Expr} {te : TE} (eK : X.K = K) (he : PE X e te) : PI X tg e (iTup K te) := by subst eK; exact pi_tup he
theorem pi_listK {tg e : Expr} {te : TE} (eK : X.K = K) (he : PE X e te) : PI X tg e (iList K te) := by subst eK; exact pi_list he
end
end KG

/-! repr of tuples and lists as data, where no text is being shown around (the law itself, as it is called from outside) -/
namespace KG
open PySem PySem.Spec PyProof.Rows L2
def rReprD (K : PySem.W.Frag) : List V → Hp → VK → Prop := fun xs H Q => ∃ (p : Addr) (d : PyData), xs = [.ref p] ∧ Dp K H (.ref p) d ∧ d.showable = true ∧ d.hasDict = false ∧ d.depth ≤ 60 ∧ d.shown.length ≤ sizeLine ∧ Q (.str d.shown) H
theorem call_reprD {X : Cx} (hg : X.A.guards = some []) (hu : X.A.units + 64 < cLine) : CallR X (.builtin "repr") (rReprD X.K) := by
  intro pins s σ H xs us Q I r h
  obtain ⟨p, d, rfl, hd, hs, hn, hdep, hz, q⟩ := h
  obtain ⟨u, rfl, ru⟩ := vals1 r
  obtain rfl : u = Value.ref p := ru
  obtain ⟨as, rd⟩ := Dp.reads I d _ _ hd rfl
  exact repr_of_reads' rd hs (PyData.noDict_hsm hn) hg (by omega) (fun _ _ e => e) (fun h' u tk hk => ⟨.str d.shown, H, I.kept (t' := tk) hk, ⟨_, rfl⟩, q⟩) hz
end KG

/-! a law that is walked where it is called from outside: nothing is being shown there, so repr of tuples may be asked in its own body -/
namespace KG
open PySem PySem.Spec PyProof.Rows L2
section
variable {P : Program} {w : World} {K : PySem.W.Frag} {mg : Str → Option Value}
/-- one call of a def in a known place -/
theorem fn_here {CX : CXT} {base : Heap} {k : Nat} {fn : Addr} {nm ql : Str} {prm : Arguments} {bdy : List Stmt} {sc : Scope} {d1 d2 d3 d4 cdv d5 oc : Value} {an od : Option Addr} {sl : Array (Option Value)} {N ps : List Str}
    {here : Around} {out : List Env} {s : Shared} {H : Hp} {Q : VK} {E : XK} {g : Args} {us : List Value} {vs : List V}
    (at_ : K.lookup fn = some ⟨oc, od, .func (PySem.W.fnOf nm ql prm bdy sc d1 d2 d3 d4 an cdv d5), sl⟩) (code : PySem.W.codeIn K cdv ql = true) (S : FnScope N ps sc) (room : Room (k + 1) here) (e0 : Env0 P w K mg base here out s H)
    (bind : BindsTo s (PySem.W.fnOf nm ql prm bdy sc d1 d2 d3 d4 an cdv d5) g (ps.zip us)) (rel : Vals vs us) (many : vs.length = ps.length)
    (walk : ∃ t, PSs (cxOf CX P w K mg base N ql sc fn cdv here out s H E) bdy t ∧ t { nx := fun _ H' => Q .non H', rt := Q } (start N vs) H) :
    codeAny (model P w) here (.call (.ref fn) g) (CR CX out P w H s Q E) s := by
  obtain ⟨t, hw, hq⟩ := walk
  have inK : K.In s.heap := e0.mod.kin.keeps fun b o z => (e0.bs b o z).1
  refine codeAny_call_function room.depth (inK _ _ at_) rfl S.co S.gen rfl (PySem.W.codeRec_of inK code) (bind _ _ _ _ (wpAny_newFunctionEnv_cells S.kind (fun y hy => ?_) fun env he s2 x => ?_))
  · rcases S.par y.1 (List.of_mem_zip (a := y.1) (b := y.2) hy).1 with z | z
    · exact .inl z
    · exact .inr ⟨z, PySem.W.cellsFrom_some _ _ _ (.inl z)⟩
  · subst he
    refine ⟨(e0.mod.nolimit.keeps fun b o z => (e0.bs b o z).1).keeps x.toInCall.keep, codeAny_func ?_⟩
    refine wpAny_mono (hw.run [] s2 (start N vs) H _ (inv_start S room.hd e0 many rel x) hq) (fun end_ s3 hs => ?_) fun _ _ z => z
    cases end_ with
    | ret u => exact let ⟨v, _, H', J, rv, q⟩ := hs; ⟨v, H', J.os, J.bare, J.base, J.hok, rv, q⟩
    | next => exact let ⟨_, H', J, q⟩ := hs; ⟨.non, H', J.os, J.bare, J.base, J.hok, rfl, q⟩
    | brk => exact let ⟨_, _, _, q⟩ := hs; False.elim (show False from q)
    | cont => exact let ⟨_, _, _, q⟩ := hs; False.elim (show False from q)
/-- the same, for a def of the text -/
theorem fun_here {base : Heap} {k : Nat} {x qual : Str} {st : Stmt} {f : Addr} {fd : FuncData} {N ps : List Str} {here : Around} {out : List Env} {s : Shared} {H : Hp} {Q : VK} {E : XK} {g : Args} {us : List Value} {vs : List V}
    (F : Fun K x qual st f fd) (S : FnScope N ps (defScope st)) (room : Room (k + 1) here) (e0 : Env0 P w K mg base here out s H) (bind : BindsTo s fd g (ps.zip us)) (rel : Vals vs us) (many : vs.length = ps.length)
    (walk : ∀ cdv : Value, Room k (here.deeper (envOfC qual (defScope st) s.heap.objs.size f cdv)) → ∃ t, PSs (cxOf CX0 P w K mg base N qual (defScope st) f cdv here out s H E).nox (defBody st) t ∧ t { nx := fun _ H' => Q .non H', rt := Q } (start N vs) H) :
    codeAny (model P w) here (.call (.ref f) g) (CR CX0 out P w H s Q E) s := by
  obtain ⟨oc, od, kV, doc, pm, an, cdv, ct, osl, rfl, lk, hcd⟩ := F.ex
  obtain ⟨t, h, q⟩ := walk cdv (room.deeper _)
  exact fn_here lk hcd S room e0 bind rel many ⟨t, h.nox, q⟩
/-- the law's own call, from a walk of it over any tracked heap in which at most the script stands -/
theorem law_here {mb : Str → Option Value} {fa a : Addr} {s1 : Shared} {vs : List Value} {ns : List Int} (inK : K.In s1.heap) (gl : s1.heap.Ns mainGlobals mg) (bn : s1.heap.Ns builtinsNs mb) (bb : ∀ x : Str, x ≠ "__name__" → mb x = bootBuiltins x) (lim : s1.heap.NoLimit) (ng : s1.gens = #[])
    (ob : s1.heap.get? a = some { cls := .type "list", data := .seq vs.toArray }) (it : IntsAre vs ns) (sz : ns.length ≤ sizeLine)
    (walk : ∀ (base : Heap) (H : Hp), K.In base → base.Ns mainGlobals mg → Env0 P w K mg base callerA [] s1 H → SqL K H a (ns.map V.int) → codeAny (model P w) callerA (.call (.ref fa) ⟨[.ref a], []⟩) (CR CX0 [] P w H s1 (fun v _ => v = .bl true) fun _ _ _ => False) s1) :
    codeAny (model P w) callerA (.call (.ref fa) ⟨[.ref a], []⟩) (fun r s2 => r = .ok (.ret (.bool true)) ∧ OldK s1.heap s2.heap ∧ s2.os = s1.os ∧ AllBare s2.gens) s1 := by
  obtain ⟨H, only, seq, laid, justA, notK⟩ : ∃ H : Hp, (∀ b u, H b = some u → b = a ∧ u = .frz { cls := .type "list", data := .seq vs.toArray } (.lst (ns.map V.int))) ∧ SqL K H a (ns.map V.int) ∧ HOk P w H s1.heap ∧ (∀ b, H b ≠ none → b = a) ∧ (H a ≠ none → K.lookup a = none) := by
    have rv := vals_ints it
    have ln := it.length
    cases hk : K.lookup a with
    | some o =>
      obtain rfl : o = { cls := .type "list", data := .seq vs.toArray } := by
        have z := (inK a o hk).symm.trans ob
        cases z; rfl
      exact ⟨fun _ => none, (fun b u z => nomatch z), .inr ⟨_, vs.toArray, _, hk, rfl, rfl, rfl, by rw [List.size_toArray, ln]; exact sz, by simpa using rv⟩, (fun b u z => nomatch z), fun b z => absurd rfl z, fun z => absurd rfl z⟩
    | none =>
      have self : ∀ b u, (upd (fun _ => none) a (.frz { cls := .type "list", data := .seq vs.toArray } (.lst (ns.map V.int))) : Hp) b = some u → b = a ∧ u = .frz { cls := .type "list", data := .seq vs.toArray } (.lst (ns.map V.int)) := fun b u z => by
        by_cases hb : b = a
        · subst hb; rw [upd_same] at z; exact ⟨rfl, (Option.some.inj z).symm⟩
        · rw [upd_ne hb] at z; cases z
      refine ⟨upd (fun _ => none) a (.frz { cls := .type "list", data := .seq vs.toArray } (.lst (ns.map V.int))), self, .inl (.inr ⟨_, upd_same⟩), fun b u z => ?_, fun b z => ?_, fun _ => rfl⟩
      · obtain ⟨rfl, rfl⟩ := self b u z
        exact ⟨ob, by rw [List.length_map]; exact sz, vs, _, rv, ob⟩
      · cases q : (upd (fun _ => none) a (.frz { cls := .type "list", data := .seq vs.toArray } (.lst (ns.map V.int))) : Hp) b with
        | none => exact absurd q z
        | some u => exact (self b u q).1
  -- what is not the script's is hidden from nobody
  have dicts : ∀ {b : Addr} {o : Obj} {es : Array DictEntry} {n : Nat}, s1.heap.get? b = some o → o.data = .dict es n → H b = none := fun {b o es n} z d => by
    cases q : H b with
    | none => rfl
    | some u =>
      obtain rfl := (only b u q).1
      rw [ob] at z
      cases z
      exact nomatch d
  have keepNs : ∀ {b : Addr} {m : Str → Option Value}, s1.heap.Ns b m → (hidT s1.heap H).Ns b m := fun {b m} z => by
    obtain ⟨o, es, n, z1, z2, z3⟩ := z
    exact ⟨o, es, n, hidT_get z1 (dicts z1 z2), z2, z3⟩
  have keepK : K.In (hidT s1.heap H) := fun b o z => hidT_get (inK b o z) (by
    cases q : H b with
    | none => rfl
    | some u =>
      obtain rfl := (only b u q).1
      have z2 := notK (by rw [q]; exact fun y => nomatch y)
      rw [z2] at z
      cases z)
  have lim2 : (hidT s1.heap H).NoLimit := by
    obtain ⟨mc, z1, z2⟩ := lim
    exact ⟨mc, keepNs z1, z2⟩
  have e0 : Env0 P w K mg (hidT s1.heap H) callerA [] s1 H :=
    { frames := rfl, mod := ⟨keepK, keepNs gl, ⟨mb, keepNs bn, bb⟩, lim2⟩, bs := fun b o z => of_hidT z, bsz := Nat.le_of_eq (hidT_size _ _), funs := trivial, frf := fun b z => absurd (show b ∈ ([] : List Addr) from z) List.not_mem_nil, hok := laid, bare := .of_eq ng }
  refine codeAny_mono (walk _ H keepK (keepNs gl) e0 seq) fun r s2 h => ?_
  match r, h with
  | .error e, h => exact False.elim h
  | .ok .next, h => exact False.elim h
  | .ok .brk, h => exact False.elim h
  | .ok .cont, h => exact False.elim h
  | .ok (.ret u), h =>
    obtain ⟨v, H2, z1, z2, z3, z4, z5, z6⟩ := h
    obtain rfl : v = .bl true := z6
    obtain rfl : u = Value.bool true := z5
    refine ⟨rfl, OldK.of_keep fun b o z => ?_, z1, z2⟩
    cases q : H b with
    | none => exact z3.keep b o z q (fun y => absurd (show b ∈ ([] : List Addr) from y) List.not_mem_nil) (fun y => absurd (show b ∈ ([] : List Addr) from y) List.not_mem_nil)
    | some u =>
      obtain ⟨rfl, rfl⟩ := only b u q
      have q2 := z3.frzs _ _ _ q
      have y1 := (laid _ _ q).1
      have y2 := (z4 _ _ q2).1
      rw [z] at y1
      cases y1
      exact y2
end
/-- the end: the law's row, from such walks -/
theorem walk_here {l : PySem.W.OpenLaw} {most : Nat} {txt : Program} {free : List Str} {d : DefRec} {YP : World → Heap → Prop} {XP : (Str → Option Value) → Heap → Prop} {K : Params → PySem.W.Frag}
    (hm : l.most = some most) (small : most ≤ sizeLine) (nodef : d.params.defaults = []) (inK : ∀ (w : World) (h : Heap), YP w h → (K w.params).In h)
    (walk : ∀ (w : World) (mg : Str → Option Value) (fa : Addr) (h : Heap), (K w.params).In h → h.Ns mainGlobals mg → mg d.name = some (.ref fa) → ∀ (s1 : Shared) (a : Addr) (ns : List Int), ns.length ≤ most → ∀ (base : Heap) (H : Hp), (K w.params).In base → base.Ns mainGlobals mg → Env0 l.prog w (K w.params) mg base callerA [] s1 H → SqL (K w.params) H a (ns.map V.int) →
      codeAny (model l.prog w) callerA (.call (.ref fa) ⟨[.ref a], []⟩) (CR CX0 [] l.prog w H s1 (fun v _ => v = .bl true) fun _ _ _ => False) s1) :
    PySem.W.WalkO txt free XP YP l.row.toRowW d [] (fun f vs => PySem.call f vs) :=
  Att.attach_call hm nodef fun w _ s1 mg _ fa _ _ _ _ a vs ns G Y _ _ _ hmg hobj hints hlen hg =>
    law_here (inK w _ Y) G.T.g G.T.b G.T.builtins G.T.nolimit hg hobj hints (Nat.le_trans hlen small) fun base H kb gb e0 sq => walk w mg fa _ (inK w _ Y) G.T.g hmg s1 a ns hlen base H kb gb e0 sq
end KG

namespace KH
open PySem PySem.Spec PyProof.Rows L2 KG
def topS (i : Nat) : Stmt := PySem.Challenge.pw_compasswork_k19_texts_of_drawings.main.body.getD i (.Pass ⟨0, 0, 0, 0⟩)
/-- the built-in names stand as they are -/
structure Names (mg : Str → Option Value) : Prop where
  ValueError : mg "ValueError" = none
  int : mg "int" = none
  enumerate : mg "enumerate" = none
  tuple : mg "tuple" = none
  range : mg "range" = none
  len : mg "len" = none
  abs : mg "abs" = none
  isinstance : mg "isinstance" = none
  str : mg "str" = none
  repr : mg "repr" = none
abbrev s_law_state : Stmt := topS 12
abbrev N_law_state : List Str := ["script", "mixed", "rest"]
theorem sc_law_state : FnScope N_law_state ["script"] (defScope s_law_state) := ⟨rfl, rfl, rfl, by decide +kernel, rfl, by decide +kernel, by decide +kernel⟩
abbrev s_law_take : Stmt := topS 13
abbrev N_law_take : List Str := ["state", "many", "cell", "drawn"]
theorem sc_law_take : FnScope N_law_take ["state", "many"] (defScope s_law_take) := ⟨rfl, rfl, rfl, by decide +kernel, rfl, by decide +kernel, by decide +kernel⟩
section
variable {P : Program} {w : World} {K : PySem.W.Frag} {mg : Str → Option Value} {base : Heap}
def sp_law_state (K : PySem.W.Frag) : Sp := fun vs H Q _ => ∃ (a : Addr) (ns : List Int), vs = [.ref a] ∧ SqL K H a (ns.map V.int) ∧ ns.length ≤ 63 ∧
  ∀ H' p, Same H H' → H p = none → StX H' p a ns → SqO K H' p a (ns.map V.int) → Q (.ref p) H'
theorem ok_law_state {f : Addr} {fd : FuncData} {k : Nat} (F : Fun K "_law_state" "_law_state" s_law_state f fd) (M : Names mg) : FnOk P w K mg base CX0 (k + 1) f fd ["script"] (sp_law_state K) := by
  refine F.ok sc_law_state (fun vs H Q E h => ?_) (fun cdv A outer s H vs Q E hr h => ?_)
  · obtain ⟨a, ns, rfl, _⟩ := h
    rfl
  obtain ⟨a, ns, rfl, hS, h63, q⟩ := h
  refine ⟨_, (pss_cons (ps_set (i := 1) sc_law_state.nd rfl (.inl rfl) pe_int)
    (pss_cons (ps_set (i := 2) sc_law_state.nd rfl (.inl rfl) pe_int)
    (pss_cons (ps_if (pt_cmpR op_gt (pe_callB call_len_seq (by rfl) M.len PySem.boot_len (pa_cons (pv 0) pa_nil)) pe_int (nomark _))
      (pss_cons (ps_set (i := 1) sc_law_state.nd rfl (.inl rfl) (pe_op op_mod (pe_callTy call_int1 (by rfl) M.int (by decide +kernel) (pa_cons (pe_ix ix_list (pv 0) pe_int (fun _ _ => rfl)) pa_nil)) pe_int))
      (pss_one (ps_set (i := 2) sc_law_state.nd rfl (.inl rfl) (pe_ix ix_list (pe_lst (pa_cons (pe_op op_fdiv (pe_callB call_abs (by rfl) M.abs (by decide +kernel) (pa_cons (pe_ix ix_list (pv 0) pe_int (fun _ _ => rfl)) pa_nil)) pe_int) (pa_cons pe_int pa_nil))) (pv 1) (fun _ _ => rfl)))))
      pss_nil)
    (pss_one (ps_ret (pe_lst (pa_cons (pv 0) (pa_cons (pv 2) (pa_cons pe_int (pa_cons (pv 1) (pa_cons (pe_lst pa_nil) (pa_cons pe_int (pa_cons pe_int (pa_cons pe_int pa_nil)))))))))))))), ?_⟩
  -- the end, once for both ways
  have fin : ∀ (r m : Int) (H1 : Hp), Same H H1 → StOk ns r 1 m → ∀ e, H1 e = none → ∀ p, (upd H1 e (.lst [])) p = none → Q (.ref p) (upd (upd H1 e (.lst [])) p (.lst (stL a e r 1 m))) := fun r m H1 sm ok e he p hp => by
    have s2 : Same H1 (upd H1 e (.lst [])) := same_new he _
    have s3 : Same (upd H1 e (.lst [])) (upd (upd H1 e (.lst [])) p (.lst (stL a e r 1 m))) := same_new hp _
    exact q _ p (sm.trans (s2.trans s3)) (sm.free (s2.free hp)) ⟨e, r, 1, m, upd_same, ok⟩ ((SqO.new (s2.seq (sm.seq hS)) hp).but (.put _ _))
  refine ⟨_, rfl, a, _, rfl, .inl hS, _, _, rfl, rfl, _, rfl, ite2 (fun c => ?_) (fun c => ?_)⟩
  · have hl : (ns.map V.int).length = ns.length := List.length_map _
    have hpos : 0 < ns.length := by
      have := of_decide_eq_true c
      rw [hl] at this; omega
    obtain ⟨v, hv⟩ := at_n (ns := ns) (i := 0) (by omega) (by omega)
    refine ⟨_, rfl, a, _, _, _, rfl, rfl, hS, hv, .inl ⟨_, rfl, ?_⟩⟩
    refine ⟨_, _, rfl, rfl, (by show (0 : Int) < 2; decide), ?_⟩
    refine ⟨_, rfl, a, _, _, _, rfl, rfl, hS, hv, _, rfl, _, _, rfl, rfl, ⟨by decide, by decide⟩, (by show 2 ≤ sizeLine; decide), fun t ht => ?_⟩
    have h2 : v % 2 = 0 ∨ v % 2 = 1 := by omega
    rcases h2 with h2 | h2
    · rw [show (fun i j => V.int (i % j)) v 2 = V.int 0 from congrArg V.int h2]
      refine ⟨_, rfl, t, _, 0, _, rfl, rfl, SqL.of upd_same, atI_nat (j := 0) rfl, ?_⟩
      refine ⟨_, rfl, _, rfl, _, rfl, Nat.zero_le _, fun e he => ⟨(by show 8 ≤ sizeLine; decide), fun p hp => ?_⟩⟩
      exact fin _ _ _ (same_new ht _) (.inr ⟨rfl, by split <;> omega, by decide⟩) e he p hp
    · rw [show (fun i j => V.int (i % j)) v 2 = V.int 1 from congrArg V.int h2]
      refine ⟨_, rfl, t, _, 1, _, rfl, rfl, SqL.of upd_same, atI_nat (j := 1) rfl, ?_⟩
      refine ⟨_, rfl, _, rfl, _, rfl, Nat.zero_le _, fun e he => ⟨(by show 8 ≤ sizeLine; decide), fun p hp => ?_⟩⟩
      exact fin _ _ _ (same_new ht _) (.inl ⟨rfl, hpos⟩) e he p hp
  · refine ⟨_, rfl, _, rfl, _, rfl, Nat.zero_le _, fun e he => ⟨(by show 8 ≤ sizeLine; decide), fun p hp => ?_⟩⟩
    exact fin _ _ _ (Same.refl _) (.inr ⟨rfl, by decide, by decide⟩) e he p hp
def sp_law_take (K : PySem.W.Frag) : Sp := fun vs H Q _ => ∃ (p a : Addr) (ns : List Int) (many : Int), vs = [.ref p, .int many] ∧ StX H p a ns ∧ SqO K H p a (ns.map V.int) ∧ 0 < many ∧ many.natAbs.log2 < 9000 ∧
  ∀ (d : Int) (H' : Hp), 0 ≤ d → d < many → StX H' p a ns → But p H H' → Q (.int d) H'
theorem ok_law_take {f : Addr} {fd : FuncData} {k : Nat} (F : Fun K "_law_take" "_law_take" s_law_take f fd) (M : Names mg) : FnOk P w K mg base CX0 (k + 1) f fd ["state", "many"] (sp_law_take K) := by
  refine F.ok sc_law_take (fun vs H Q E h => ?_) (fun cdv A outer s H vs Q E hr h => ?_)
  · obtain ⟨p, a, ns, many, rfl, _⟩ := h
    rfl
  obtain ⟨p, a, ns, many, rfl, ⟨e, r, c, m, hp, ok⟩, hS, h0, h9, q⟩ := h
  refine ⟨_, (pss_cons (ps_if (pt_cmpR op_eq (pe_ix ix_list (pv 0) pe_int (fun _ _ => rfl)) pe_int (nomark _))
      (pss_cons (ps_set (i := 2) sc_law_take.nd rfl (.inl rfl) (pe_ix ix_list (pe_ix ix_list (pv 0) pe_int (fun _ _ => rfl)) (pe_op op_mod (pe_callTy call_int1 (by rfl) M.int (by decide +kernel) (pa_cons (pe_ix ix_list (pv 0) pe_int (fun _ _ => rfl)) pa_nil)) (pe_callB call_len_seq (by rfl) M.len PySem.boot_len (pa_cons (pe_ix ix_list (pv 0) pe_int (fun _ _ => rfl)) pa_nil))) (fun _ _ => rfl)))
      (pss_cons (ps_asg (pe_op op_mod (pe_callTy call_int1 (by rfl) M.int (by decide +kernel) (pa_cons (pe_op op_add (pe_op op_add (pe_op op_add (pe_op op_mul (pe_ix ix_list (pv 0) pe_int (fun _ _ => rfl)) pe_int) (pe_op op_mul (pv 2) pe_int)) (pe_op op_mul (pe_ix ix_list (pv 0) pe_int (fun _ _ => rfl)) pe_int)) pe_int) pa_nil)) pe_int) (pg_sub (pv 0) pe_int set_list))
      (pss_cons (ps_asg (pe_op op_add (pe_ix ix_list (pv 0) pe_int (fun _ _ => rfl)) pe_int) (pg_sub (pv 0) pe_int set_list))
      (pss_one (ps_ret (pe_op op_mod (pe_op op_mod (pe_callTy call_int1 (by rfl) M.int (by decide +kernel) (pa_cons (pe_op op_add (pe_op op_mul (pe_ix ix_list (pv 0) pe_int (fun _ _ => rfl)) pe_int) pe_int) pa_nil)) pe_int) (pv 1)))))))
      pss_nil)
    (pss_cons (ps_if (pt_cmpR op_eq (pe_ix ix_list (pv 0) pe_int (fun _ _ => rfl)) pe_int (nomark _))
      (pss_cons (ps_if (pt_cmpR op_ge (pe_ix ix_list (pv 0) pe_int (fun _ _ => rfl)) (pe_callB call_len_seq (by rfl) M.len PySem.boot_len (pa_cons (pe_ix ix_list (pv 0) pe_int (fun _ _ => rfl)) pa_nil)) (nomark _))
        (pss_one (ps_ret pe_int))
        pss_nil)
      (pss_cons (ps_asg (pe_callB call_abs (by rfl) M.abs (by decide +kernel) (pa_cons (pe_ix ix_list (pe_ix ix_list (pv 0) pe_int (fun _ _ => rfl)) (pe_ix ix_list (pv 0) pe_int (fun _ _ => rfl)) (fun _ _ => rfl)) pa_nil)) (pg_sub (pv 0) pe_int set_list))
      (pss_one (ps_asg (pe_op op_add (pe_ix ix_list (pv 0) pe_int (fun _ _ => rfl)) pe_int) (pg_sub (pv 0) pe_int set_list)))))
      pss_nil)
    (pss_cons (ps_set (i := 3) sc_law_take.nd rfl (.inl rfl) (pe_op op_mod (pe_callTy call_int1 (by rfl) M.int (by decide +kernel) (pa_cons (pe_ix ix_list (pv 0) pe_int (fun _ _ => rfl)) pa_nil)) (pv 1)))
    (pss_cons (ps_asg (pe_op op_fdivW (pe_ix ix_list (pv 0) pe_int (fun _ _ => rfl)) (pv 1)) (pg_sub (pv 0) pe_int set_list))
    (pss_one (ps_ret (pv 3))))))), ?_⟩
  have hSn : SqL K H a (ns.map V.int) := hS.now hp
  have hl : (ns.map V.int).length = ns.length := List.length_map _
  refine ⟨_, rfl, p, _, 3, _, rfl, rfl, SqL.of hp, atI_nat (j := 3) rfl, rfl, _, rfl, ite2 (fun t1 => ?_) (fun t1 => ?_)⟩
  · -- mixed draws
    have m1 : m = 1 := V.int.inj (of_decide_eq_true t1)
    have npos : 0 < ns.length := by
      rcases ok with ⟨_, z⟩ | ⟨z, _⟩
      · exact z
      · omega
    obtain ⟨v, hv⟩ := at_n (ns := ns) (i := c % ((ns.map V.int).length : Nat)) (Int.emod_nonneg _ (by omega)) (by rw [hl]; exact Int.emod_lt_of_pos _ (by omega))
    refine ⟨_, rfl, p, _, 0, _, rfl, rfl, SqL.of hp, atI_nat (j := 0) rfl, _, rfl, p, _, 2, _, rfl, rfl, SqL.of hp, atI_nat (j := 2) rfl, .inl ⟨_, rfl, ?_⟩⟩
    refine ⟨_, rfl, p, _, 0, _, rfl, rfl, SqL.of hp, atI_nat (j := 0) rfl, a, _, rfl, .inl hSn, _, _, rfl, rfl, (by show (0 : Int) < ((ns.map V.int).length : Nat); omega), a, _, _, _, rfl, rfl, hSn, hv, ?_⟩
    -- state[1] = ..
    refine ⟨_, rfl, p, _, 1, _, rfl, rfl, SqL.of hp, atI_nat (j := 1) rfl, _, _, rfl, rfl, .inr ⟨by decide, by decide⟩, _, rfl, _, _, rfl, rfl, .inr ⟨by decide, by decide⟩, _, _, rfl, rfl, _, rfl, p, _, 2, _, rfl, rfl, SqL.of hp, atI_nat (j := 2) rfl, _, _, rfl, rfl, .inr ⟨by decide, by decide⟩, _, _, rfl, rfl, _, _, rfl, rfl, .inl ⟨_, rfl, ?_⟩⟩
    refine ⟨_, _, rfl, rfl, (by show (0 : Int) < 2147483647; decide), _, rfl, p, _, 1, 1, rfl, rfl, hp, rfl, ?_⟩
    -- state[2] = ..
    refine ⟨_, rfl, p, _, 2, _, rfl, rfl, SqL.of upd_same, atI_nat (j := 2) rfl, _, _, rfl, rfl, _, rfl, p, _, 2, 2, rfl, rfl, upd_same, rfl, ?_⟩
    refine ⟨_, rfl, p, _, 1, _, rfl, rfl, SqL.of upd_same, atI_nat (j := 1) rfl, _, _, rfl, rfl, .inr ⟨by decide, by decide⟩, _, _, rfl, rfl, .inl ⟨_, rfl, ?_⟩⟩
    refine ⟨_, _, rfl, rfl, (by show (0 : Int) < 2147483629; decide), _, rfl, _, _, rfl, rfl, h0, ?_⟩
    refine q _ _ (Int.emod_nonneg _ (by omega)) (Int.emod_lt_of_pos _ h0) ⟨e, _, _, m, upd_same, ?_⟩ ((But.put _ _).trans (.put _ _))
    exact .inl ⟨m1, npos⟩
  · -- whole numbers, drawn from by their rests
    have m0 : m = 0 ∧ 0 ≤ r ∧ 0 ≤ c := by
      rcases ok with ⟨z, _⟩ | z
      · exact absurd (by rw [z]; rfl) t1
      · exact z
    obtain ⟨rfl, r0, c0⟩ := m0
    have fin : ∀ (r1 c1 : Int) (H1 : Hp), 0 ≤ r1 → 0 ≤ c1 → But p H H1 → H1 p = some (.lst (stL a e r1 c1 0)) → ∀ d, d = r1 % many → Q (.int d) (upd H1 p (.lst (stL a e (r1 / many) c1 0))) := fun r1 c1 H1 k1 k2 k3 k4 d hd => by
      subst hd
      exact q _ _ (Int.emod_nonneg _ (by omega)) (Int.emod_lt_of_pos _ h0) ⟨e, _, _, 0, upd_same, .inr ⟨rfl, Int.ediv_nonneg k1 (by omega), k2⟩⟩ (k3.trans (.put _ _))
    refine ⟨_, rfl, p, _, 1, _, rfl, rfl, SqL.of hp, atI_nat (j := 1) rfl, rfl, _, rfl, ite2 (fun t2 => ?_) (fun t2 => ?_)⟩
    · refine ⟨_, rfl, p, _, 2, _, rfl, rfl, SqL.of hp, atI_nat (j := 2) rfl, _, rfl, p, _, 0, _, rfl, rfl, SqL.of hp, atI_nat (j := 0) rfl, a, _, rfl, .inl hSn, _, _, rfl, rfl, _, rfl, ite2 (fun t3 => ?_) (fun t3 => ?_)⟩
      · exact q _ _ (Int.le_refl 0) h0 ⟨e, r, c, 0, hp, ok⟩ (But.refl _ _)
      · have lt : c < ((ns.map V.int).length : Nat) := by
          have := of_decide_eq_false (Bool.eq_false_iff.mpr t3)
          omega
        obtain ⟨v, hv⟩ := at_n (ns := ns) (i := c) c0 (by omega)
        refine ⟨_, rfl, p, _, 0, _, rfl, rfl, SqL.of hp, atI_nat (j := 0) rfl, _, rfl, p, _, 2, _, rfl, rfl, SqL.of hp, atI_nat (j := 2) rfl, a, _, _, _, rfl, rfl, hSn, hv, _, rfl, _, rfl, p, _, 1, 1, rfl, rfl, hp, rfl, ?_⟩
        refine ⟨_, rfl, p, _, 2, _, rfl, rfl, SqL.of upd_same, atI_nat (j := 2) rfl, _, _, rfl, rfl, _, rfl, p, _, 2, 2, rfl, rfl, upd_same, rfl, ?_⟩
        refine ⟨_, rfl, p, _, 1, _, rfl, rfl, SqL.of upd_same, atI_nat (j := 1) rfl, .inl ⟨_, rfl, ?_⟩⟩
        refine ⟨_, rfl, _, _, rfl, rfl, h0, ?_⟩
        refine ⟨_, rfl, p, _, 1, _, rfl, rfl, SqL.of upd_same, atI_nat (j := 1) rfl, _, rfl, _, _, rfl, rfl, ⟨h0, h9⟩, _, rfl, p, _, 1, 1, rfl, rfl, upd_same, rfl, ?_⟩
        refine ⟨_, rfl, ?_⟩
        exact fin (if v < 0 then -v else v) (c + 1) (upd (upd H p _) p _) (by split <;> omega) (by omega) ((But.put _ _).trans (.put _ _)) upd_same _ rfl
    · refine ⟨_, rfl, p, _, 1, _, rfl, rfl, SqL.of hp, atI_nat (j := 1) rfl, .inl ⟨_, rfl, ?_⟩⟩
      refine ⟨_, rfl, _, _, rfl, rfl, h0, ?_⟩
      refine ⟨_, rfl, p, _, 1, _, rfl, rfl, SqL.of hp, atI_nat (j := 1) rfl, _, rfl, _, _, rfl, rfl, ⟨h0, h9⟩, _, rfl, p, _, 1, 1, rfl, rfl, hp, rfl, ?_⟩
      refine ⟨_, rfl, ?_⟩
      exact fin r c H r0 c0 (But.refl _ _) hp _ rfl
end
end KH

namespace KH
open PySem PySem.Spec PyProof.Rows L2 KG
abbrev s_law_drawn_step : Stmt := topS 14
abbrev N_law_drawn_step : List Str := ["state", "steps", "most", "points", "figures", "at", "kind", "i", "j"]
theorem sc_law_drawn_step : FnScope N_law_drawn_step ["state", "steps", "most"] (defScope s_law_drawn_step) := ⟨rfl, rfl, rfl, by decide +kernel, rfl, by decide +kernel, by decide +kernel⟩
section
variable {P : Program} {w : World} {K : PySem.W.Frag} {mg : Str → Option Value} {base : Heap}
def sp_law_drawn_step (K : PySem.W.Frag) : Sp := fun vs H Q _ => ∃ (p a l : Addr) (ns : List Int) (us : List V) (ss : List Stp) (m : Int), vs = [.ref p, .ref l, .int m] ∧ StX H p a ns ∧ SqO K H p a (ns.map V.int) ∧ H l = some (.lst us) ∧ SAt H us ss ∧ ss.length ≤ 500 ∧ 0 ≤ m ∧ m < 2 ^ 2000 ∧
  ∀ H' (t : Addr) (s : Stp), StX H' p a ns → But p H H' → H' t = some (.tup (stV s)) → SNew ss m s → Q (.ref t) H'
theorem ok_law_drawn_step {f : Addr} {fd : FuncData} {k : Nat} (F : Fun K "_law_drawn_step" "_law_drawn_step" s_law_drawn_step f fd) (M : Names mg) (G_law_take : Cal P w K mg base k "_law_take" ["state", "many"] (sp_law_take K)) : FnOk P w K mg base CX0 (k + 1) f fd ["state", "steps", "most"] (sp_law_drawn_step K) := by
  refine F.ok sc_law_drawn_step (fun vs H Q E h => ?_) (fun cdv A outer s H vs Q E hr h => ?_)
  · obtain ⟨p, a, l, ns, us, ss, m, rfl, _⟩ := h
    rfl
  obtain ⟨p, a, l, ns, us, ss, m, rfl, hX, hS, hl, hss, l500, m0, m2, fin⟩ := h
  refine ⟨_, (pss_cons (ps_set (i := 3) sc_law_drawn_step.nd rfl (.inl rfl) (pe_lst pa_nil))
    (pss_cons (ps_set (i := 4) sc_law_drawn_step.nd rfl (.inl rfl) (pe_lst pa_nil))
    (pss_cons (ps_for PassesOwn.never rfl (pi_range1 (by rfl) M.range (pa_cons (pe_callB call_len_seq (by rfl) M.len PySem.boot_len (pa_cons (pv 1) pa_nil)) pa_nil)) (pg_name (i := 5) sc_law_drawn_step.nd rfl (.inl rfl))
      (pss_one (ps_if (pt_cmpR op_in_seq (pe_ix ix_tup (pe_ix ix_list (pv 1) (pv 5) (fun _ _ => rfl)) pe_int (fun _ _ => rfl)) (pe_lst (pa_cons pe_str (pa_cons pe_str pa_nil))) (by rfl))
        (pss_one (ps_expr (pe_bm PySem.F.plainAttrs_list PySem.F.slot_list_append PySem.F.type_list_append mt_append (pv 3) (pa_cons (pv 5) pa_nil))))
        (pss_one (ps_expr (pe_bm PySem.F.plainAttrs_list PySem.F.slot_list_append PySem.F.type_list_append mt_append (pv 4) (pa_cons (pv 5) pa_nil)))))))
    (pss_cons (ps_set (i := 6) sc_law_drawn_step.nd rfl (.inl rfl) (pe_call G_law_take.ok hr (by rfl) G_law_take.m G_law_take.kp G_law_take.b .nil pass0 (pa_cons (pv 0) (pa_cons pe_int pa_nil))))
    (pss_cons (ps_if (PW.pt (pw_or (pt_cmpR op_eq (pv 6) pe_int (nomark _)) (pw_or1 (pt_cmpR op_lt (pe_callB call_len_seq (by rfl) M.len PySem.boot_len (pa_cons (pv 3) pa_nil)) pe_int (nomark _)))))
      (pss_one (ps_ret (pe_tup (pa_cons pe_str (pa_cons (pe_op op_sub (pe_call G_law_take.ok hr (by rfl) G_law_take.m G_law_take.kp G_law_take.b .nil pass0 (pa_cons (pv 0) (pa_cons (pe_op op_add (pe_op op_mul pe_int (pv 2)) pe_int) pa_nil))) (pv 2)) (pa_cons (pe_op op_sub (pe_call G_law_take.ok hr (by rfl) G_law_take.m G_law_take.kp G_law_take.b .nil pass0 (pa_cons (pv 0) (pa_cons (pe_op op_add (pe_op op_mul pe_int (pv 2)) pe_int) pa_nil))) (pv 2)) pa_nil))))))
      pss_nil)
    (pss_cons (ps_if (PW.pt (pw_or (pt_cmpR op_lt (pv 6) pe_int (nomark _)) (pw_or1 (pt_cmpR op_lt (pe_callB call_len_seq (by rfl) M.len PySem.boot_len (pa_cons (pv 4) pa_nil)) pe_int (nomark _)))))
      (pss_cons (ps_set (i := 7) sc_law_drawn_step.nd rfl (.inl rfl) (pe_ix ix_list (pv 3) (pe_call G_law_take.ok hr (by rfl) G_law_take.m G_law_take.kp G_law_take.b .nil pass0 (pa_cons (pv 0) (pa_cons (pe_callB call_len_seq (by rfl) M.len PySem.boot_len (pa_cons (pv 3) pa_nil)) pa_nil))) (fun _ _ => rfl)))
      (pss_cons (ps_set (i := 8) sc_law_drawn_step.nd rfl (.inl rfl) (pe_ix ix_list (pv 3) (pe_call G_law_take.ok hr (by rfl) G_law_take.m G_law_take.kp G_law_take.b .nil pass0 (pa_cons (pv 0) (pa_cons (pe_callB call_len_seq (by rfl) M.len PySem.boot_len (pa_cons (pv 3) pa_nil)) pa_nil))) (fun _ _ => rfl)))
      (pss_cons (ps_if (pt_cmpR op_eq (pv 6) pe_int (nomark _))
        (pss_one (ps_ret (pe_tup (pa_cons pe_str (pa_cons (pv 7) (pa_cons (pv 8) pa_nil))))))
        pss_nil)
      (pss_one (ps_ret (pe_tup (pa_cons pe_str (pa_cons (pv 7) (pa_cons (pv 8) (pa_cons (pe_ix ix_list (pv 3) (pe_call G_law_take.ok hr (by rfl) G_law_take.m G_law_take.kp G_law_take.b .nil pass0 (pa_cons (pv 0) (pa_cons (pe_callB call_len_seq (by rfl) M.len PySem.boot_len (pa_cons (pv 3) pa_nil)) pa_nil))) (fun _ _ => rfl)) pa_nil))))))))))
      pss_nil)
    (pss_cons (ps_set (i := 7) sc_law_drawn_step.nd rfl (.inl rfl) (pe_ix ix_list (pv 4) (pe_call G_law_take.ok hr (by rfl) G_law_take.m G_law_take.kp G_law_take.b .nil pass0 (pa_cons (pv 0) (pa_cons (pe_callB call_len_seq (by rfl) M.len PySem.boot_len (pa_cons (pv 4) pa_nil)) pa_nil))) (fun _ _ => rfl)))
    (pss_cons (ps_set (i := 8) sc_law_drawn_step.nd rfl (.inl rfl) (pe_ix ix_list (pv 4) (pe_call G_law_take.ok hr (by rfl) G_law_take.m G_law_take.kp G_law_take.b .nil pass0 (pa_cons (pv 0) (pa_cons (pe_callB call_len_seq (by rfl) M.len PySem.boot_len (pa_cons (pv 4) pa_nil)) pa_nil))) (fun _ _ => rfl)))
    (pss_one (ps_ret (pe_tup (pa_cons pe_str (pa_cons (pv 7) (pa_cons (pv 8) (pa_cons (pe_call G_law_take.ok hr (by rfl) G_law_take.m G_law_take.kp G_law_take.b .nil pass0 (pa_cons (pv 0) (pa_cons pe_int pa_nil))) pa_nil))))))))))))))), ?_⟩
  have lus := hss.len
  -- the two lists
  refine ⟨Nat.zero_le _, fun lp nlp => ?_⟩
  have S1 := same_new nlp (.lst [])
  refine ⟨Nat.zero_le _, fun lf nlf => ?_⟩
  have S2 := same_new nlf (.lst [])
  have S12 := S1.trans S2
  have pf : lp ≠ lf := fun z => by rw [← z, upd_same] at nlf; cases nlf
  have nlfH : H lf = none := S1.free nlf
  refine ⟨_, rfl, l, _, rfl, .inl (SqL.of (S12 _ _ hl)), ?_⟩
  refine ⟨_, rfl, (by show -(2 ^ 62) ≤ ((us.length : Nat) : Int); omega), (by show ((us.length : Nat) : Int) < 2 ^ 62; omega), for_range (lo := 0) (n := us.length) (fun k σ H' => ∃ (pts fgs : List Int) (y5 : Option V), σ = [some (.ref p), some (.ref l), some (.int m), some (.ref lp), some (.ref lf), y5, none, none, none] ∧ Same H H' ∧ H' lp = some (.lst (pts.map V.int)) ∧ H' lf = some (.lst (fgs.map V.int)) ∧ pts.length ≤ k ∧ fgs.length ≤ k ∧ (∀ x ∈ pts, Nm1 ss true x) ∧ (∀ x ∈ fgs, Nm1 ss false x))
    ⟨[], [], none, rfl, S12, S2 _ _ upd_same, upd_same, Nat.le_refl _, Nat.le_refl _, (fun x h => by cases h), (fun x h => by cases h)⟩ (fun k σ H' hk hP => ?_) (fun σ H' hP => ?_)⟩
  · obtain ⟨pts, fgs, y5, rfl, sm, hp, hf, lp1, lf1, ap, af⟩ := hP
    have hks : k < ss.length := by omega
    obtain ⟨t, ht, et⟩ := (hss.same sm).get (List.getElem?_eq_getElem hks)
    have hu : atI us (0 + (k : Nat) : Int) = some (.ref t) := by
      rw [show (0 + (k : Nat) : Int) = ((k : Nat) : Int) by omega]
      exact atI_nat ht
    have h0 : atI (stV ss[k]) 0 = some (.str ss[k].w) := atI_nat (j := 0) rfl
    refine ⟨_, rfl, _, rfl, l, _, _, _, rfl, rfl, SqL.of (sm _ _ hl), hu, t, _, _, _, rfl, rfl, SqT.of et, h0, (by show 2 ≤ sizeLine; decide), fun q hq => ?_⟩
    have S3 := same_new hq (.lst [V.str "point", .str "meet"])
    refine ⟨q, _, rfl, .inl (SqL.of upd_same), rfl, rfl, _, rfl, ?_⟩
    have nmk : ∀ b, isPt ss[k].w = b → Nm1 ss b (0 + (k : Nat)) := fun b h => ⟨by omega, ss[k], by rw [show (0 + (k : Nat) : Int).toNat = k by omega]; exact List.getElem?_eq_getElem hks, h⟩
    refine ite2 (fun c => ?_) (fun c => ?_)
    · have hp2 := S3 _ _ hp
      refine ⟨_, rfl, .inl ⟨rfl, _, .inl (.inl hp2)⟩, _, rfl, lp, _, _, rfl, rfl, hp2, small1000 (by rw [List.length_map]; omega), ?_⟩
      refine ⟨pts ++ [(0 + (k : Nat) : Int)], fgs, _, rfl, same_put (sm.trans S3) nlp, by rw [upd_same, List.map_append]; rfl, by rw [upd_ne (Ne.symm pf)]; exact S3 _ _ hf, by rw [List.length_append, List.length_singleton]; omega, by omega, fun x hx => ?_, af⟩
      rcases List.mem_append.mp hx with hx | hx
      · exact ap x hx
      · rw [List.mem_singleton.mp hx]; exact nmk true c
    · have hf2 := S3 _ _ hf
      refine ⟨_, rfl, .inl ⟨rfl, _, .inl (.inl hf2)⟩, _, rfl, lf, _, _, rfl, rfl, hf2, small1000 (by rw [List.length_map]; omega), ?_⟩
      refine ⟨pts, fgs ++ [(0 + (k : Nat) : Int)], _, rfl, same_put (sm.trans S3) nlfH, by rw [upd_ne pf]; exact S3 _ _ hp, by rw [upd_same, List.map_append]; rfl, by omega, by rw [List.length_append, List.length_singleton]; omega, ap, fun x hx => ?_⟩
      rcases List.mem_append.mp hx with hx | hx
      · exact af x hx
      · rw [List.mem_singleton.mp hx]; exact nmk false (Bool.eq_false_iff.mpr c)
  · obtain ⟨pts, fgs, y5, rfl, sm, hp, hf, lp1, lf1, ap, af⟩ := hP
    have lpm : (pts.map V.int).length = pts.length := List.length_map _
    have lfm : (fgs.map V.int).length = fgs.length := List.length_map _
    have X := hX.same sm
    have O := hS.but (.of sm)
    have lpp : lp ≠ p := hX.ne nlp
    have lfp : lf ≠ p := hX.ne nlfH
    have lg : ∀ n : Int, n.natAbs < 2 ^ 2002 → n.natAbs.log2 < 9000 := fun n h => log_small h (by decide) (by decide)
    have lgs : ∀ n : Nat, n ≤ 500 → ((n : Nat) : Int).natAbs.log2 < 9000 := fun n h => log_small (n := 10) (by omega) (by decide) (by decide)
    have lgm : (2 * m + 1).natAbs.log2 < 9000 := by
      refine log_small (n := 2002) ?_ (by decide) (by decide)
      have e : (2 : Nat) ^ 2002 = 4 * 2 ^ 2000 := by rw [Nat.pow_add 2 2 2000]
      have m3 : m.natAbs < 2 ^ 2000 := by
        have : ((m.natAbs : Nat) : Int) < ((2 ^ 2000 : Nat) : Int) := by rw [Int.natCast_pow]; omega
        exact Int.ofNat_lt.mp this
      omega
    -- a draw out of a list of places
    have pick : ∀ (b : Bool) (xs : List Int) (d : Int), (∀ x ∈ xs, Nm1 ss b x) → 0 ≤ d → d < ((xs.map V.int).length : Nat) → ∃ v, atI (xs.map V.int) d = some (.int v) ∧ Nm1 ss b v := fun b xs d hx h0 h1 => by
      rw [List.length_map] at h1
      exact ⟨_, map_atI h0 h1, hx _ (co_mem (by omega))⟩
    refine ⟨_, rfl, p, a, ns, _, rfl, X, O, by decide, lg _ (Nat.lt_of_lt_of_le (show (7 : Int).natAbs < 2 ^ 3 by decide) (Nat.pow_le_pow_right (by decide) (by decide))), fun kd H1 kd0 kd7 X1 b1 => ?_⟩
    have B1 : But p H H1 := (But.of sm).trans b1
    have O1 := O.but b1
    have hp1 := b1 _ _ lpp hp
    have hf1 := b1 _ _ lfp hf
    have point : ∀ (Q' : VK), (∀ (t : Addr) (s : Stp) (H' : Hp), StX H' p a ns → But p H H' → H' t = some (.tup (stV s)) → SNew ss m s → Q' (.ref t) H') → tTup (tCons (tC (V.str "point")) (tCons (tOp (rI0 fun i j => .int (i - j)) (tCall (sp_law_take K) [] E0 (tCons (tVar 0) (tCons (tOp (rI0 fun i j => .int (i + j)) (tOp (rI CMul fun i j => .int (i * j)) (tC (V.int 2)) (tVar 2)) (tC (V.int 1))) tNil))) (tVar 2)) (tCons (tOp (rI0 fun i j => .int (i - j)) (tCall (sp_law_take K) [] E0 (tCons (tVar 0) (tCons (tOp (rI0 fun i j => .int (i + j)) (tOp (rI CMul fun i j => .int (i * j)) (tC (V.int 2)) (tVar 2)) (tC (V.int 1))) tNil))) (tVar 2)) tNil))) [some (.ref p), some (.ref l), some (.int m), some (.ref lp), some (.ref lf), y5, some (.int kd), none, none] H1 Q' := fun Q' hQ => by
      refine ⟨_, rfl, _, rfl, _, _, rfl, rfl, .inl ⟨by decide, by decide⟩, _, _, rfl, rfl, p, a, ns, _, rfl, X1, O1, by omega, lgm, fun x H2 x0 x1 X2 b2 => ?_⟩
      refine ⟨_, rfl, _, _, rfl, rfl, ?_⟩
      refine ⟨_, rfl, _, rfl, _, _, rfl, rfl, .inl ⟨by decide, by decide⟩, _, _, rfl, rfl, p, a, ns, _, rfl, X2, O1.but b2, by omega, lgm, fun y H3 y0 y1 X3 b3 => ?_⟩
      refine ⟨_, rfl, _, _, rfl, rfl, (by show 3 ≤ sizeLine; decide), fun t nt => ?_⟩
      have S4 := same_new nt (.tup [V.str "point", .int (x - m), .int (y - m)])
      exact hQ t ⟨"point", [x - m, y - m]⟩ _ (X3.same S4) (B1.trans (b2.trans (b3.trans (.of S4)))) upd_same (.inl ⟨_, _, rfl, by omega, by omega, by omega, by omega⟩)
    have pt2 : ∀ n : Nat, ¬ ((n : Nat) : Int) < 2 → (0 : Int) < ((n : Nat) : Int) := fun n h => by omega
    refine ⟨_, rfl, rfl, _, rfl, ite2 (fun c1 => iteT (point Q fun t s H' X' B' e n => fin H' t s X' B' e n)) (fun c1 => ⟨_, rfl, lp, _, rfl, .inl (SqL.of hp1), _, _, rfl, rfl, _, rfl, ite2 (fun c2 => point Q fun t s H' X' B' e n => fin H' t s X' B' e n) (fun c2 => ?_)⟩)⟩
    have ppos : (0 : Int) < ((pts.map V.int).length : Nat) := pt2 _ (of_decide_eq_false (Bool.eq_false_iff.mpr c2))
    refine ⟨_, rfl, _, _, rfl, rfl, _, rfl, ite2 (fun c3 => iteT ?P1) (fun c3 => ⟨_, rfl, lf, _, rfl, .inl (SqL.of hf1), _, _, rfl, rfl, _, rfl, ite2 (fun c4 => ?P2) (fun c4 => ?F)⟩)⟩
    case F =>
      have fpos : (0 : Int) < ((fgs.map V.int).length : Nat) := pt2 _ (of_decide_eq_false (Bool.eq_false_iff.mpr c4))
      refine ⟨_, rfl, _, rfl, _, rfl, lf, _, rfl, .inl (SqL.of hf1), p, a, ns, _, rfl, X1, O1, fpos, lgs _ (by omega), fun d2 H2 d20 d21 X2 b2 => ?_⟩
      obtain ⟨v2, hv2, nv2⟩ := pick false fgs d2 af d20 d21
      have hf2 := b2 _ _ lfp hf1
      refine ⟨lf, _, _, _, rfl, rfl, SqL.of hf2, hv2, ?_⟩
      refine ⟨_, rfl, _, rfl, _, rfl, lf, _, rfl, .inl (SqL.of hf2), p, a, ns, _, rfl, X2, O1.but b2, fpos, lgs _ (by omega), fun d3 H3 d30 d31 X3 b3 => ?_⟩
      obtain ⟨v3, hv3, nv3⟩ := pick false fgs d3 af d30 d31
      have hf3 := b3 _ _ lfp hf2
      refine ⟨lf, _, _, _, rfl, rfl, SqL.of hf3, hv3, ?_⟩
      refine ⟨_, rfl, _, rfl, _, rfl, p, a, ns, _, rfl, X3, (O1.but b2).but b3, by decide, lg _ (Nat.lt_of_lt_of_le (show (2 : Int).natAbs < 2 ^ 3 by decide) (Nat.pow_le_pow_right (by decide) (by decide))), fun d4 H4 d40 d41 X4 b4 => ⟨(by show 4 ≤ sizeLine; decide), fun t nt => ?_⟩⟩
      have S4 := same_new nt (.tup [V.str "meet", .int v2, .int v3, .int d4])
      exact fin _ t ⟨"meet", [v2, v3, d4]⟩ (X4.same S4) (B1.trans (b2.trans (b3.trans (b4.trans (.of S4))))) upd_same (.inr (.inr (.inr ⟨_, _, _, rfl, nv2, nv3, d40, by have : d4 < 2 := d41; omega⟩)))
    all_goals
      refine ⟨_, rfl, _, rfl, _, rfl, lp, _, rfl, .inl (SqL.of hp1), p, a, ns, _, rfl, X1, O1, ppos, lgs _ (by omega), fun d2 H2 d20 d21 X2 b2 => ?_⟩
      obtain ⟨v2, hv2, nv2⟩ := pick true pts d2 ap d20 d21
      have hp2 := b2 _ _ lpp hp1
      refine ⟨lp, _, _, _, rfl, rfl, SqL.of hp2, hv2, ?_⟩
      refine ⟨_, rfl, _, rfl, _, rfl, lp, _, rfl, .inl (SqL.of hp2), p, a, ns, _, rfl, X2, O1.but b2, ppos, lgs _ (by omega), fun d3 H3 d30 d31 X3 b3 => ?_⟩
      obtain ⟨v3, hv3, nv3⟩ := pick true pts d3 ap d30 d31
      have hp3 := b3 _ _ lpp hp2
      refine ⟨lp, _, _, _, rfl, rfl, SqL.of hp3, hv3, ?_⟩
      refine ⟨_, rfl, rfl, _, rfl, ite2 (fun c5 => ?_) (fun c5 => ?_)⟩
      · refine ⟨_, rfl, _, rfl, (by show 3 ≤ sizeLine; decide), fun t nt => ?_⟩
        have S4 := same_new nt (.tup [V.str "line", .int v2, .int v3])
        exact fin _ t ⟨"line", [v2, v3]⟩ (X3.same S4) (B1.trans (b2.trans (b3.trans (.of S4)))) upd_same (.inr (.inl ⟨_, _, rfl, nv2, nv3⟩))
      · refine ⟨_, rfl, _, rfl, _, rfl, _, rfl, _, rfl, lp, _, rfl, .inl (SqL.of hp3), p, a, ns, _, rfl, X3, (O1.but b2).but b3, ppos, lgs _ (by omega), fun d4 H4 d40 d41 X4 b4 => ?_⟩
        obtain ⟨v4, hv4, nv4⟩ := pick true pts d4 ap d40 d41
        have hp4 := b4 _ _ lpp hp3
        refine ⟨lp, _, _, _, rfl, rfl, SqL.of hp4, hv4, (by show 4 ≤ sizeLine; decide), fun t nt => ?_⟩
        have S4 := same_new nt (.tup [V.str "circle", .int v2, .int v3, .int v4])
        exact fin _ t ⟨"circle", [v2, v3, v4]⟩ (X4.same S4) (B1.trans (b2.trans (b3.trans (b4.trans (.of S4))))) upd_same (.inr (.inr (.inl ⟨_, _, _, rfl, nv2, nv3, nv4⟩)))
end
end KH

namespace KH
open PySem PySem.Spec PyProof.Rows L2 KG
abbrev sinteger_of : Stmt := topS 5
abbrev Ninteger_of : List Str := ["word", "digits", "digit"]
theorem scinteger_of : FnScope Ninteger_of ["word"] (defScope sinteger_of) := ⟨rfl, rfl, rfl, by decide +kernel, rfl, by decide +kernel, by decide +kernel⟩
section
variable {P : Program} {w : World} {K : PySem.W.Frag} {mg : Str → Option Value} {base : Heap}
def sp_integer_of : Sp := fun vs H Q _ => ∃ x : Str, vs = [.str x] ∧ x.length ≤ 10000000 ∧ (∀ n : Int, isWhole x = true → intText? x = some n → numS n = x → Q (.int n) H) ∧ (isWhole x = false → Q .non H)
theorem ok_integer_of {f : Addr} {fd : FuncData} {k : Nat} {tm : Tok} (F : Fun K "integer_of" "integer_of" sinteger_of f fd) (M : Names mg) (gM : mg "MOST_DIGITS" = some (.int 30 tm)) : FnOk P w K mg base CX0 (k + 1) f fd ["word"] sp_integer_of := by
  refine F.ok scinteger_of (fun vs H Q E h => ?_) (fun cdv A outer s H vs Q E hr h => ?_)
  · obtain ⟨x, rfl, _⟩ := h
    rfl
  obtain ⟨x, rfl, hx, yes, no⟩ := h
  refine ⟨_, (pss_cons (ps_if (pt_cmpR op_eq (pv 0) pe_str (nomark _))
      (pss_one (ps_ret pe_int))
      pss_nil)
    (pss_cons (ps_set (i := 1) scinteger_of.nd rfl (.inl rfl) (pe_bm PySem.F.plainAttrs_str PySem.F.slot_str_removeprefix PySem.F.type_str_removeprefix mt_removeprefix (pv 0) (pa_cons pe_str pa_nil)))
    (pss_cons (ps_if (PW.pt (pw_or (pt_not (pt_chain op_le op_le pe_int (pe_callB call_len_str (by rfl) M.len PySem.boot_len (pa_cons (pv 1) pa_nil)) (pe_glob (v := .int 30) (by rfl) gM ⟨_, rfl⟩))) (pw_or1 (pt_cmpR op_eq (pe_ix ix_str (pv 1) pe_int (fun _ _ => rfl)) pe_str (nomark _)))))
      (pss_one (ps_ret pe_non))
      pss_nil)
    (pss_cons (ps_for PassesOwn.never rfl (pi_str (pv 1)) (pg_name (i := 2) scinteger_of.nd rfl (.inl rfl))
      (pss_one (ps_if (pt_cmpR op_notIn_sign (pv 2) pe_str (by rfl))
        (pss_one (ps_ret pe_non))
        pss_nil)))
    (pss_one (ps_ret (pe_callTy call_int_str (by rfl) M.int (by decide +kernel) (pa_cons (pv 0) pa_nil)))))))), ?_⟩
  have szl : ∀ y : Str, y.length ≤ x.length → y.length ≤ sizeLine := fun y h => by rw [sizeLine_eq]; omega
  have ny := szl _ (digs_le x)
  refine ⟨_, rfl, rfl, _, rfl, ite2 (fun c0 => ?_) (fun c0 => ?_)⟩
  · have e0 : x = "0" := V.str.inj (of_decide_eq_true c0)
    have hw : isWhole x = true := by rw [e0]; decide +kernel
    obtain ⟨n, h1, h2, _⟩ := canon_read hw
    have h3 : n = 0 := numS_inj (h2.trans (e0.trans (by decide +kernel)))
    have q := yes n hw h1 h2
    rw [h3] at q
    exact q
  have e0 : ¬ x = "0" := fun e => c0 (decide_eq_true (by rw [e]))
  refine ⟨_, rfl, rfl, x, "-", rfl, rfl, szl _ (Nat.le_refl _), ?_⟩
  rw [show Txt.removeprefix x "-" = digs x from removeprefix_digs x]
  have dl := digs_le x
  have wh : isWhole x = (decide (1 ≤ (digs x).length) && decide ((digs x).length ≤ 30) && (digs x).cps.toList.all (fun c => decide (c ∈ dec)) && decide ((digs x).cps[0]? ≠ some 48)) := by
    unfold isWhole; rw [decide_eq_false e0, Bool.false_or]
  generalize hd : digs x = d at ny dl wh
  refine ⟨_, rfl, _, rfl, ny, _, _, rfl, rfl, _, rfl, ite2 (fun c1 => ⟨_, _, rfl, rfl, _, rfl, ite2 (fun c2 => iteT ?B2) (fun c2 => ?GO)⟩) (fun c1 => ⟨_, rfl, iteT (iteT ?B1)⟩)⟩
  case B1 =>
    refine no ?_
    have h := of_decide_eq_false (Bool.eq_false_iff.mpr c1)
    rw [wh, decide_eq_false (show ¬ 1 ≤ d.length by omega)]; rfl
  case B2 =>
    refine no ?_
    have h : ¬ ((d.length : Int) ≤ 30) := of_decide_eq_false ((Bool.not_eq_true' _).mp c2)
    rw [wh, decide_eq_false (show ¬ d.length ≤ 30 by omega)]; simp
  have g1 : 1 ≤ d.length := by have := of_decide_eq_true c1; omega
  have g2 : d.length ≤ 30 := by
    have h : ((d.length : Int) ≤ 30) := of_decide_eq_true ((Bool.not_eq_false' (b := _)).mp (Bool.eq_false_iff.mpr c2))
    omega
  have hs : 0 < d.cps.size := g1
  have hg : d.cps[0]? = some d.cps[0] := Array.getElem?_eq_getElem hs
  have e5 : decide (V.str ⟨#[d.cps[0]]⟩ = V.str "0") = decide (d.cps[0] = 48) := by
    by_cases z : d.cps[0] = 48
    · rw [z]; rfl
    · rw [decide_eq_false z, decide_eq_false]
      intro y
      have y3 := congrArg (fun t : Str => t.cps.toList) (V.str.inj y)
      exact z (List.cons.inj (y3.trans (show ("0" : Str).cps.toList = [48] by decide +kernel))).1
  refine ⟨_, rfl, _, 0, d.cps[0], rfl, rfl, ny, atI_nat (j := 0) (by rw [Array.getElem?_toList]; exact hg), rfl, _, rfl, ?_⟩
  rw [e5]
  refine ite2 (fun c3 => ?_) (fun c3 => ?_)
  · refine no ?_
    rw [wh, hg, of_decide_eq_true c3]; simp
  have g3 : d.cps[0] ≠ 48 := of_decide_eq_false (Bool.eq_false_iff.mpr c3)
  have wh2 : isWhole x = d.cps.toList.all (fun c => decide (c ∈ dec)) := by
    rw [wh, hg, decide_eq_true g1, decide_eq_true g2, decide_eq_true (p := some _ ≠ some 48) (fun y => g3 (Option.some.inj y))]; simp
  refine ⟨_, rfl, d, rfl, ⟨fun i m σ H' => m = d.cps.size - i ∧ i ≤ d.cps.size ∧ H' = H ∧ (∃ y2 : Option V, σ = [some (.str x), some (.str d), y2]) ∧ ∀ j, j < i → ∀ c, d.cps[j]? = some c → c ∈ dec,
    ⟨_, rfl, Nat.zero_le _, rfl, ⟨none, rfl⟩, fun j h => by omega⟩, ?_⟩⟩
  rintro i m σ H' ⟨rfl, hi, rfl, ⟨y2, rfl⟩, hall⟩
  by_cases hlt : i < d.cps.size
  · refine .inr ⟨hlt, fun σ' H'' => H'' = H' ∧ (∃ y2 : Option V, σ' = [some (.str x), some (.str d), y2]) ∧ ∀ j, j < i + 1 → ∀ c, d.cps[j]? = some c → c ∈ dec, fun σ' H'' p => ⟨d.cps.size - (i + 1), by omega, rfl, hlt, p⟩, fun v H'' y => ?_⟩
    obtain ⟨rfl, c, hc, rfl⟩ := y
    refine ⟨_, rfl, c, _, rfl, rfl, _, rfl, ite2 (fun c4 => ?_) (fun c4 => ?_)⟩
    · refine no ?_
      have n4 : ¬ c ∈ dec := of_decide_eq_false ((Bool.not_eq_true' _).mp c4)
      rw [wh2, List.all_eq_false]
      exact ⟨c, List.mem_of_getElem? (i := i) (by rw [Array.getElem?_toList]; exact hc), by simpa using n4⟩
    · have n4 : c ∈ dec := of_decide_eq_true ((Bool.not_eq_false' (b := _)).mp (Bool.eq_false_iff.mpr c4))
      refine ⟨rfl, ⟨_, rfl⟩, fun j hj c' hc' => ?_⟩
      by_cases z : j = i
      · rw [z, hc] at hc'
        rw [← Option.some.inj hc']; exact n4
      · exact hall j (by omega) c' hc'
  · refine .inl ⟨by show d.cps.size ≤ i; omega, ?_⟩
    have hw : isWhole x = true := by
      rw [wh2, List.all_eq_true]
      intro c hc
      obtain ⟨j, hj, rfl⟩ := List.getElem_of_mem hc
      have hj' : j < d.cps.size := by rw [← Array.length_toList]; exact hj
      exact decide_eq_true (hall j (by omega) _ (by rw [← Array.getElem?_toList]; exact List.getElem?_eq_getElem hj))
    obtain ⟨n, h1, h2, _, h4⟩ := canon_read hw
    exact ⟨_, rfl, x, n, rfl, h1, by omega, yes n hw h1 h2⟩
end
end KH


namespace KG
open PySem PySem.Spec PyProof.Rows L2
def forms : List (Str × Int) := [("point", 2), ("line", 2), ("circle", 3), ("meet", 3)]
theorem kd_forms (y : Str) : kdOr forms y .non = if y = "point" ∨ y = "line" then .int 2 else if y = "circle" ∨ y = "meet" then .int 3 else .non := by
  by_cases h1 : y = "point"
  · subst h1; decide +kernel
  by_cases h2 : y = "line"
  · subst h2; decide +kernel
  by_cases h3 : y = "circle"
  · subst h3; decide +kernel
  by_cases h4 : y = "meet"
  · subst h4; decide +kernel
  rw [if_neg (fun h => h.elim h1 h2), if_neg (fun h => h.elim h3 h4)]
  have ne : ∀ k : Str, y ≠ k → (y == k) = false := fun k h => by rw [beq_eq_false_iff_ne]; exact h
  unfold kdOr
  have e : forms.lookup y = none := by
    unfold forms
    rw [List.lookup_cons, ne _ h1, List.lookup_cons, ne _ h2, List.lookup_cons, ne _ h3, List.lookup_cons, ne _ h4]; rfl
  rw [e]
theorem in2 (y a b : Str) : inV (.str y) [.str a, .str b] = decide (y = a ∨ y = b) := by
  show (a == y || (b == y || false)) = _
  rw [Bool.eq_iff_iff]
  simp only [Bool.or_eq_true, beq_iff_eq, decide_eq_true_eq, Bool.false_eq_true, or_false]
  exact ⟨fun h => h.elim (fun e => .inl e.symm) fun e => .inr e.symm, fun h => h.elim (fun e => .inl e.symm) fun e => .inr e.symm⟩
theorem forms_kind (y0 : Str) (r0 : List Str) : decide (kdOr forms y0 .non = V.int ((((y0 :: r0).map V.str).length : Nat) - 1)) = (kind3 (y0 :: r0) || kind4 (y0 :: r0)) := by
  rw [kd_forms, List.length_map]
  have e3 : kind3 (y0 :: r0) = (decide (y0 = "point" ∨ y0 = "line") && decide ((y0 :: r0).length = 3)) := by unfold kind3 w0; rw [← in2]; rfl
  have e4 : kind4 (y0 :: r0) = (decide (y0 = "circle" ∨ y0 = "meet") && decide ((y0 :: r0).length = 4)) := by unfold kind4 w0; rw [← in2]; rfl
  rw [e3, e4]
  by_cases h1 : y0 = "point" ∨ y0 = "line"
  · have h2 : ¬ (y0 = "circle" ∨ y0 = "meet") := by
      rcases h1 with h | h <;> rw [h] <;> decide +kernel
    rw [if_pos h1, decide_eq_true h1, decide_eq_false h2, Bool.true_and, Bool.false_and, Bool.or_false, Bool.eq_iff_iff, decide_eq_true_eq, decide_eq_true_eq]
    exact ⟨fun h => by have := V.int.inj h; omega, fun h => congrArg V.int (by omega)⟩
  · rw [if_neg h1, decide_eq_false h1, Bool.false_and, Bool.false_or]
    by_cases h2 : y0 = "circle" ∨ y0 = "meet"
    · rw [if_pos h2, decide_eq_true h2, Bool.true_and, Bool.eq_iff_iff, decide_eq_true_eq, decide_eq_true_eq]
      exact ⟨fun h => by have := V.int.inj h; omega, fun h => congrArg V.int (by omega)⟩
    · rw [if_neg h2, decide_eq_false h2, Bool.false_and]
      exact decide_eq_false fun h => by cases h
theorem scal_kd (y : Str) (n : Int) : scal (kdOr forms y .non) (.int n) = true := by
  rw [kd_forms]
  split
  · rfl
  · split <;> rfl
/-- what a word is read as -/
def readV : V → V
  | .str x => if isWhole x = true then (match intText? x with | some n => .int n | none => .non) else .non
  | v => v
theorem read_yes {x : Str} (h : isWhole x = true) : ∃ n : Int, readV (.str x) = .int n ∧ numS n = x ∧ n.natAbs < 10 ^ 30 := by
  obtain ⟨n, h1, h2, h3, _⟩ := canon_read h
  exact ⟨n, by show (if isWhole x = true then (match intText? x with | some n => V.int n | none => .non) else .non) = _; rw [if_pos h, h1], h2, h3⟩
theorem read_no {x : Str} (h : isWhole x = false) : readV (.str x) = .non := by show (if isWhole x = true then (match intText? x with | some n => V.int n | none => .non) else .non) = _; rw [if_neg (by rw [h]; decide)]
theorem read_all : ∀ r : List Str, r.all isWhole = true → ∃ ns : List Int, (r.map V.str).map readV = ns.map V.int ∧ ns.map numS = r ∧ ∀ n ∈ ns, n.natAbs < 10 ^ 30
  | [], _ => ⟨[], rfl, rfl, fun n h => by cases h⟩
  | x :: r, h => by
    rw [List.all_cons, Bool.and_eq_true] at h
    obtain ⟨n, h1, h2, h3⟩ := read_yes h.1
    obtain ⟨ns, k1, k2, k3⟩ := read_all r h.2
    exact ⟨n :: ns, by rw [List.map_cons, List.map_cons, List.map_cons, h1, k1], by rw [List.map_cons, h2, k2], fun m hm => by
      rcases List.mem_cons.mp hm with rfl | hm
      · exact h3
      · exact k3 m hm⟩
theorem none_in : ∀ r : List Str, inV .non ((r.map V.str).map readV) = !r.all isWhole
  | [] => rfl
  | x :: r => by
    have ih := none_in r
    show (eqV (readV (.str x)) .non || inV .non ((r.map V.str).map readV)) = _
    rw [ih, List.all_cons]
    cases h : isWhole x with
    | true =>
      obtain ⟨n, h1, _⟩ := read_yes h
      rw [h1]; rfl
    | false => rw [read_no h]; rfl
theorem flat_read : ∀ r : List Str, ((r.map V.str).map readV).all flatV = true
  | [] => rfl
  | x :: r => by
    rw [List.map_cons, List.map_cons, List.all_cons, flat_read r, Bool.and_true]
    cases h : isWhole x with
    | true =>
      obtain ⟨n, h1, _⟩ := read_yes h
      rw [h1]; rfl
    | false => rw [read_no h]; rfl
/-- the first of n that p does not hold of -/
def firstNot (n : Nat) (p : Nat → Bool) : Option Nat := (List.range n).find? fun k => !p k
theorem firstNot_some {n k : Nat} {p : Nat → Bool} (h : ∀ j, j < k → p j = true) (hk : k < n) (hb : p k = false) : firstNot n p = some k := by
  unfold firstNot
  rw [List.find?_range_eq_some]
  exact ⟨by rw [hb]; rfl, List.mem_range.mpr hk, fun j hj => by rw [h j hj]; rfl⟩
theorem firstNot_none {n : Nat} {p : Nat → Bool} (h : ∀ j, j < n → p j = true) : firstNot n p = none := by
  unfold firstNot
  rw [List.find?_range_eq_none]
  exact fun j hj => by rw [h j hj]; rfl
def lineOk (x : Str) : Bool := isLine (Txt.split x " ")
def badL (ls : List Str) : Option Nat := firstNot ls.length fun k => lineOk (ls.getD k "")
def Small30 (s : Stp) : Prop := ∀ n ∈ s.ns, n.natAbs < 10 ^ 30
theorem small_log {n : Int} (h : n.natAbs < 10 ^ 30) : n.natAbs.log2 < 1920 := log_small (n := 100) (Nat.lt_of_lt_of_le h (by decide)) (by decide) (by decide)
end KG
namespace KH
open PySem PySem.Spec PyProof.Rows L2 KG
abbrev s_bt : Stmt := inCls (topS 2) 0
abbrev N_bt : List Str := ["self", "place"]
theorem sc_bt : FnScope N_bt ["self", "place"] (defScope s_bt) := ⟨rfl, rfl, rfl, by decide +kernel, rfl, by decide +kernel, by decide +kernel⟩
abbrev s_read_step : Stmt := topS 9
abbrev N_read_step : List Str := ["line", "words", "integers", "word"]
theorem sc_read_step : FnScope N_read_step ["line"] (defScope s_read_step) := ⟨rfl, rfl, rfl, by decide +kernel, rfl, by decide +kernel, by decide +kernel⟩
abbrev sread_drawing : Stmt := topS 8
abbrev Nread_drawing : List Str := ["text", "steps", "place", "line", "step"]
theorem scread_drawing : FnScope Nread_drawing ["text"] (defScope sread_drawing) := ⟨rfl, rfl, rfl, by decide +kernel, rfl, by decide +kernel, by decide +kernel⟩
section
variable {P : Program} {w : World} {K : PySem.W.Frag} {mg : Str → Option Value} {base : Heap} {C fI W aD : Addr}
theorem ok_bt {f : Addr} {fd : FuncData} {k : Nat} (F : Fun K "__init__" "BadText.__init__" s_bt f fd) : FnOk P w K mg base CX0 (k + 1) f fd ["self", "place"] (spInit K "place" C) := by
  refine F.ok sc_bt (fun vs H Q E h => ?_) (fun cdv A outer s H vs Q E hr h => ?_)
  · obtain ⟨a, v, rfl, _⟩ := h
    rfl
  obtain ⟨a, v, rfl, hT, hno, ha, fin⟩ := h
  refine ⟨_, pss_one (ps_ost (f := "place") (pv 0) (pv 1)), ?_⟩
  exact ⟨_, rfl, _, rfl, a, C, rfl, hT, hno, .inl ⟨ha, fun dx n ne => fin dx n ne⟩⟩
def sp_read_step : Sp := fun vs H Q _ => ∃ x : Str, vs = [.str x] ∧ x.length ≤ 10000000 ∧ (lineOk x = false → ∀ H', Same H H' → Q .non H') ∧
  (lineOk x = true → ∀ H' t s, Same H H' → H' t = some (.tup (stV s)) → SForm s → Small30 s → lineOf s = x → Q (.ref t) H')
theorem ok_read_step {f : Addr} {fd : FuncData} {k : Nat} (F : Fun K "_read_step" "_read_step" s_read_step f fd) (M : Names mg) (gF : mg "FORMS" = some (.ref aD)) (D : KDi K w aD forms)
    (G : Cal P w K mg base k "integer_of" ["word"] sp_integer_of) : FnOk P w K mg base CX0 (k + 1) f fd ["line"] sp_read_step := by
  refine F.ok sc_read_step (fun vs H Q E h => ?_) (fun cdv A outer s H vs Q E hr h => ?_)
  · obtain ⟨x, rfl, _⟩ := h
    rfl
  obtain ⟨x, rfl, hx, no, yes⟩ := h
  refine ⟨_, (pss_cons (ps_set (i := 1) sc_read_step.nd rfl (.inl rfl) (pe_split (pv 0) pe_str))
    (pss_cons (ps_if (pt_cmpR op_ne (pe_kget1 (pe_glob (v := .ref aD) (by rfl) gF rfl) (pe_ix ix_list (pv 1) pe_int (fun _ _ => rfl)) ⟨by rfl, by rfl, by rfl, by rfl⟩) (pe_op op_sub (pe_callB call_len_seq (by rfl) M.len PySem.boot_len (pa_cons (pv 1) pa_nil)) pe_int) (nomark _))
      (pss_one (ps_ret pe_non))
      pss_nil)
    (pss_cons (ps_setLc (i := 2) (own := [("word", 3)]) (g := gName 3) (by rfl) sc_read_step.nd rfl rfl (sw_true rfl rfl rfl (by decide +kernel)) (pi_list (pe_slice sl_list (pv 1) (po_some pe_int) po_none)) (blkOk_by (own := [("word", 3)]) (N := N_read_step) (sc := defScope s_read_step) (by decide +kernel)) (fun _ _ _ _ _ => pg_name (i := 3) sc_read_step.nd rfl (Or.inl rfl)) (fun _ _ _ _ _ => pts_nil) (fun _ _ _ _ _ => (pe_call G.ok hr (by rfl) G.m G.kp G.b .nil pass0 (pa_cons (pv 3) pa_nil))))
    (pss_cons (ps_if (pt_cmpR op_in_seq pe_non (pv 2) (by rfl))
      (pss_one (ps_ret pe_non))
      pss_nil)
    (pss_one (ps_ret (pe_tup (pa_cons (pe_ix ix_list (pv 1) pe_int (fun _ _ => rfl)) (StX.pa_star (pv 2) pa_nil))))))))), ?_⟩
  have hne := sep_blank.ne x
  have hlw := sep_blank.len x
  have hback := join_of_split x " "
  have hlo : lineOk x = isLine (Txt.split x " ") := rfl
  generalize hws : Txt.split x " " = ws at hne hlw hback hlo
  obtain ⟨y0, r0, rfl⟩ : ∃ y0 r0, ws = y0 :: r0 := by
    cases ws with
    | nil => exact absurd rfl hne
    | cons a b => exact ⟨a, b, rfl⟩
  refine ⟨_, rfl, ⟨_, rfl⟩, x, " ", rfl, rfl, (by decide +kernel), (by rw [sizeLine_eq]; omega), fun p np => ?_⟩
  rw [hws]
  have S1 := same_new np (.lst ((y0 :: r0).map V.str))
  have hp : (upd H p (.lst ((y0 :: r0).map V.str))) p = some (.lst ((y0 :: r0).map V.str)) := upd_same
  have ix0 : atI ((y0 :: r0).map V.str) 0 = some (.str y0) := atI_nat (j := 0) rfl
  have lm : ((y0 :: r0).map V.str).length = (y0 :: r0).length := List.length_map _
  generalize (upd H p (.lst ((y0 :: r0).map V.str))) = H1 at S1 hp
  refine ⟨aD, forms, rfl, D, _, rfl, p, _, _, _, rfl, rfl, SqL.of hp, ix0, _, rfl, _, rfl, p, _, rfl, .inl (SqL.of hp), _, _, rfl, rfl, scal_kd _ _, _, rfl, ?_⟩
  rw [forms_kind y0 r0]
  refine ite2 (fun c1 => ?_) (fun c1 => ?_)
  · have k : (kind3 (y0 :: r0) || kind4 (y0 :: r0)) = false := (Bool.not_eq_true' _).mp c1
    exact no (by rw [hlo]; unfold isLine; rw [k]; rfl) _ S1
  have kk : (kind3 (y0 :: r0) || kind4 (y0 :: r0)) = true := (Bool.not_eq_false' (b := _)).mp (Bool.eq_false_iff.mpr c1)
  have hlo2 : lineOk x = r0.all isWhole := by rw [hlo]; unfold isLine; rw [kk]; rfl
  have hc : (y0 = "point" ∨ y0 = "line") ∧ (y0 :: r0).length = 3 ∨ (y0 = "circle" ∨ y0 = "meet") ∧ (y0 :: r0).length = 4 := by
    rcases (Bool.or_eq_true _ _).mp kk with h | h
    · have h : (inV (.str y0) [.str "point", .str "line"] && decide ((y0 :: r0).length = 3)) = true := h
      rw [in2, Bool.and_eq_true, decide_eq_true_eq, decide_eq_true_eq] at h
      exact .inl h
    · have h : (inV (.str y0) [.str "circle", .str "meet"] && decide ((y0 :: r0).length = 4)) = true := h
      rw [in2, Bool.and_eq_true, decide_eq_true_eq, decide_eq_true_eq] at h
      exact .inr h
  have lr0 : r0.length ≤ 3 := by rcases hc with ⟨_, h⟩ | ⟨_, h⟩ <;> rw [List.length_cons] at h <;> omega
  have ecut : cutV ((y0 :: r0).map V.str) (some 1) none = r0.map V.str := by
    rw [show (some 1 : Option Int) = some ((1 : Nat) : Int) from rfl, cut_from _ 1 (by rw [lm, List.length_cons]; omega)]; rfl
  refine ⟨_, rfl, _, rfl, p, _, rfl, SqL.of hp, fun q3 n3 => ?_⟩
  rw [ecut]
  have S2 := same_new n3 (.lst (r0.map V.str))
  refine ⟨q3, rfl, ⟨_, SqL.of upd_same⟩, fun D0 nD => comp_listN readV (xs := r0.map V.str) (SqL.of upd_same) nD (by rw [List.length_map]; omega) (fun j v H5 Nx hv s5 hN => ?_) (fun H5 s5 hD => ?_)⟩
  · rw [List.getElem?_map] at hv
    cases hr0 : r0[j]? with
    | none => rw [hr0] at hv; cases hv
    | some z =>
      rw [hr0] at hv
      obtain rfl : V.str z = v := Option.some.inj hv
      refine ⟨rfl, _, rfl, z, rfl, Nat.le_trans (hlw z (List.mem_cons_of_mem _ (List.mem_of_getElem? hr0))) hx, fun n h1 h2 _ => ?_, fun h1 => ?_⟩
      · have q := hN H5 (fun _ _ e => e)
        rw [show readV (.str z) = .int n by show (if isWhole z = true then (match intText? z with | some n => V.int n | none => .non) else .non) = _; rw [if_pos h1, h2]] at q
        exact q
      · have q := hN H5 (fun _ _ e => e)
        rw [read_no h1] at q
        exact q
  have S3 := S1.trans (S2.trans s5)
  refine ⟨_, rfl, D0, _, rfl, .inl (SqL.of hD), rfl, flat_read r0, _, rfl, ?_⟩
  rw [show (if false = true then !inV V.non ((r0.map V.str).map readV) else inV V.non ((r0.map V.str).map readV)) = !r0.all isWhole from none_in r0]
  refine ite2 (fun c2 => ?_) (fun c2 => ?_)
  · exact no (by rw [hlo2]; exact (Bool.not_eq_true' _).mp c2) _ S3
  have ha : r0.all isWhole = true := (Bool.not_eq_false' (b := _)).mp (Bool.eq_false_iff.mpr c2)
  obtain ⟨ns, k1, k2, k3⟩ := read_all r0 ha
  have ln : ns.length = r0.length := by rw [← k2, List.length_map]
  rw [k1] at hD
  refine ⟨_, rfl, p, _, _, _, rfl, rfl, SqL.of ((S2.trans s5) _ _ hp), ix0, _, rfl, D0, _, rfl, .inr (SqL.of hD), ?_, fun t nt => ?_⟩
  · rw [List.append_nil]
    show (V.str y0 :: ns.map V.int).length ≤ sizeLine
    rw [List.length_cons, List.length_map, sizeLine_eq]; omega
  refine yes (by rw [hlo2]; exact ha) _ t ⟨y0, ns⟩ (S3.trans (same_new nt _)) (by rw [upd_same, List.append_nil]; rfl) ?_ k3 ?_
  · rcases hc with ⟨h | h, h2⟩ | ⟨h | h, h2⟩ <;> rw [List.length_cons] at h2
    · exact .inl ⟨h, by show ns.length = 2; omega⟩
    · exact .inr (.inl ⟨h, by show ns.length = 2; omega⟩)
    · exact .inr (.inr (.inl ⟨h, by show ns.length = 3; omega⟩))
    · exact .inr (.inr (.inr ⟨h, by show ns.length = 3; omega⟩))
  · show Txt.join " " (y0 :: ns.map numS) = x
    rw [k2]; exact hback
def sp_read_drawing (C : Addr) : Sp := fun vs H Q E => ∃ x : Str, vs = [.str x] ∧ x.length ≤ 10000000 ∧ (x = "" → ∀ H' p, Same H H' → H' p = some (.tup []) → Q (.ref p) H') ∧
  (x ≠ "" → badL (Txt.split x "\n") = none → ∀ H' p us ss, Same H H' → H' p = some (.tup us) → SAt H' us ss → ss.map lineOf = Txt.split x "\n" → (∀ s ∈ ss, SForm s ∧ Small30 s) → Q (.ref p) H') ∧
  (x ≠ "" → ∀ k, badL (Txt.split x "\n") = some k → ∀ H' d, Same H H' → H' d = some (.xd [(("place" : Str), .int (k : Int))]) → E (.ref C) (some d) H')
theorem same_delT {H H1 : Hp} {a d : Addr} {C : Addr} {fs : List (Str × V)} {o1 o2 : HO} (s : Same H H1) (na : H1 a = none) (nd : (upd H1 a o1) d = none) (ne : d ≠ a) : Same H (upd (del (upd (upd (upd H1 a o1) d o2) a (exo a C (some d))) a) d (.xd fs)) := fun b o e => by
  have h1 := s b o e
  have ba : b ≠ a := ne_of_none h1 na
  have bd : b ≠ d := fun z => by
    rw [z, ← upd_ne (H := H1) (o := o1) ne] at h1
    rw [nd] at h1; cases h1
  rw [upd_ne bd, del_ne ba, upd_ne ba, upd_ne bd, upd_ne ba]; exact h1
theorem ok_read_drawing {f : Addr} {fd fdi : FuncData} {k : Nat} (F : Fun K "read_drawing" "read_drawing" sread_drawing f fd) (M : Names mg) (T : OwnE K mg "BadText" "place" C fI W) (Gi : FnOk P w K mg base CX0 (k + 1) fI fdi ["self", "place"] (spInit K "place" C)) (bi : Binds K fdi ["self", "place"] [])
    (G : Cal P w K mg base (k + 2) "_read_step" ["line"] sp_read_step) : FnOk P w K mg base (L2.CX P w) (k + 3) f fd ["text"] (sp_read_drawing C) := by
  refine F.okX scread_drawing (fun vs H Q E h => ?_) (fun cdv A outer s H vs Q E hr h => ?_)
  · obtain ⟨x, rfl, _⟩ := h
    rfl
  obtain ⟨x, rfl, hx, kE, kN, kB⟩ := h
  refine ⟨_, (pss_cons (ps_if (pt_cmpR op_eq (pv 0) pe_str (nomark _))
      (pss_one (ps_ret (pe_tup pa_nil)))
      pss_nil)
    (pss_cons (ps_set (i := 1) scread_drawing.nd rfl (.inl rfl) (pe_lst pa_nil))
    (pss_cons (ps_for PassesOwn.leaving rfl (pi_enum (by rfl) M.enumerate (pa_cons (pe_split (pv 0) pe_str) pa_nil)) (pg_tup rfl (pgs_cons (pg_name (i := 2) scread_drawing.nd rfl (.inl rfl)) (pgs_cons (pg_name (i := 3) scread_drawing.nd rfl (.inl rfl)) pgs_nil)))
      (pss_cons (ps_set (i := 4) scread_drawing.nd rfl (.inl rfl) (pe_call G.ok hr (by rfl) G.m G.kp G.b .nil pass0 (pa_cons (pv 3) pa_nil)))
      (pss_cons (ps_if (pt_cmpR op_isN (pv 4) pe_non (nomark _))
        (pss_one (ps_raise rfl (takes_of (E := E) rfl rfl rfl rfl) (pmk_oex T.oex T.iC T.tI Gi hr bi .nil pass0 (by rfl) T.gC (pa_cons (pv 2) pa_nil))))
        pss_nil)
      (pss_one (ps_expr (pe_bm PySem.F.plainAttrs_list PySem.F.slot_list_append PySem.F.type_list_append mt_append (pv 1) (pa_cons (pv 4) pa_nil)))))))
    (pss_one (ps_ret (pe_callTy call_tuple_of (by rfl) M.tuple (by decide +kernel) (pa_cons (pv 1) pa_nil))))))), ?_⟩
  refine ⟨_, rfl, rfl, _, rfl, ite2 (fun c0 => ?_) (fun c0 => ?_)⟩
  · have e0 : x = "" := V.str.inj (of_decide_eq_true c0)
    exact ⟨Nat.zero_le _, fun p np => kE e0 _ p (same_new np _) upd_same⟩
  have e0 : x ≠ "" := fun e => c0 (decide_eq_true (by rw [e]))
  replace kN := kN e0
  replace kB := kB e0
  have hln := sep_line.len x
  have hcn := sep_line.count x
  generalize hls : Txt.split x "\n" = ls at kN kB hln hcn
  refine ⟨Nat.zero_le _, fun q nq => ?_⟩
  have S1 := same_new nq (.lst [])
  refine ⟨_, rfl, ⟨_, rfl⟩, x, "\n", rfl, rfl, (by decide +kernel), (by rw [sizeLine_eq]; omega), fun p np => ?_⟩
  rw [hls]
  have S2 := same_new np (.lst (ls.map V.str))
  have qp : p ≠ q := fun z => by rw [z, upd_same] at np; cases np
  have hlp : (upd (upd H q (.lst [])) p (.lst (ls.map V.str))) p = some (.lst (ls.map V.str)) := upd_same
  have hlq : (upd (upd H q (.lst [])) p (.lst (ls.map V.str))) q = some (.lst []) := S2 _ _ upd_same
  have S12 := S1.trans S2
  generalize (upd (upd H q (.lst [])) p (.lst (ls.map V.str))) = H1 at hlp hlq S12
  refine ⟨p, ls.map V.str, rfl, SqL.of hlp, for_enumL (xs := ls.map V.str) (fun i σ H' => ∃ (y z u : Option V) (us : List V) (ss : List Stp), σ = [some (.str x), some (.ref q), y, z, u] ∧ Same H H' ∧ H' p = some (.lst (ls.map V.str)) ∧ H' q = some (.lst us) ∧ SAt H' us ss ∧ ss.map lineOf = ls.take i ∧ (∀ s ∈ ss, SForm s ∧ Small30 s) ∧ ∀ j, j < i → lineOk (ls.getD j "") = true)
    ⟨none, none, none, [], [], rfl, S12, hlp, hlq, .nil, rfl, (fun s h => by cases h), fun j h => by omega⟩ (fun i σ H' hP => by obtain ⟨_, _, _, _, _, _, _, h, _⟩ := hP; exact SqL.of h) (fun i v T' σ H' hv hP nT => ?_) (fun σ H' hP => ?_)⟩
  · obtain ⟨y, z, u, us, ss, rfl, sm, hp', hq', hss, hm, hf, hall⟩ := hP
    have hi : i < ls.length := by
      have := (List.getElem?_eq_some_iff.mp hv).1
      rwa [List.length_map] at this
    have gx : ls[i]? = some ls[i] := List.getElem?_eq_getElem hi
    have gD : ls.getD i "" = ls[i] := by simp [List.getD_eq_getElem?_getD, hi]
    obtain rfl : v = .str ls[i] := by
      rw [List.getElem?_map, gx] at hv
      exact (Option.some.inj hv).symm
    have S3 := same_new nT (.tup [V.int (i : Nat), .str ls[i]])
    have lss : us.length = i := by rw [hss.len, ← List.length_map (f := lineOf), hm, List.length_take]; omega
    refine ⟨T', _, rfl, SqT.of upd_same, rfl, _, _, rfl, _, _, rfl, rfl, ?_⟩
    refine ⟨_, rfl, ls[i], rfl, Nat.le_trans (hln _ (List.getElem_mem hi)) hx, fun hb H5 s5 => ?_, fun hb H5 t st s5 ht hfo hsm hlo => ?_⟩
    · refine ⟨_, rfl, rfl, _, rfl, iteT' rfl ?_⟩
      refine ⟨_, rfl, (by show 1 ≤ 1000; decide), fun a na => ⟨a, .int (i : Nat), rfl, T.oex, T.noF, upd_same, fun dx ndx ne => ⟨rfl, dx, [(("place" : Str), .int (i : Nat))], upd_same, by rw [upd_ne ne, upd_same], by rw [← upd_ne (H := H5) ne]; exact ndx, ?_⟩⟩⟩
      exact kB i (firstNot_some hall hi (by rw [gD]; exact hb)) _ dx (same_delT (sm.trans (S3.trans s5)) na ndx ne) upd_same
    · refine ⟨_, rfl, rfl, _, rfl, iteF' rfl ?_⟩
      have S35 := S3.trans s5
      have hq5 := S35 _ _ hq'
      refine ⟨_, rfl, .inl ⟨rfl, _, .inl (.inl hq5)⟩, _, rfl, q, _, _, rfl, rfl, hq5, (by rw [sizeLine_eq]; omega), ?_⟩
      refine ⟨_, _, _, us ++ [.ref t], ss ++ [st], rfl, same_put (sm.trans S35) nq, ?_, upd_same, ((hss.same S35).append (.cons ht .nil)).put hq5, ?_, ?_, ?_⟩
      · rw [upd_ne qp]; exact S35 _ _ hp'
      · rw [List.map_append, hm, List.take_add_one, gx]
        show _ ++ [lineOf st] = _
        rw [hlo]; rfl
      · intro s hs
        rcases List.mem_append.mp hs with h | h
        · exact hf s h
        · rw [List.mem_singleton.mp h]; exact ⟨hfo, hsm⟩
      · intro j hj
        by_cases zz : j = i
        · rw [zz, gD]; exact hb
        · exact hall j (by omega)
  · obtain ⟨y, z, u, us, ss, rfl, sm, hp', hq', hss, hm, hf, hall⟩ := hP
    refine ⟨_, rfl, q, _, rfl, .inl ⟨SqL.of hq', fun t nt => ?_⟩⟩
    have S4 := same_new nt (.tup us)
    refine kN (firstNot_none fun j hj => hall j (by rw [List.length_map]; exact hj)) _ t us ss (sm.trans S4) upd_same (hss.same S4) ?_ hf
    rw [hm, List.length_map, List.take_length]
end
end KH

namespace KG
open PySem PySem.Spec PyProof.Rows L2
def rStrB : List V → Hp → VK → Prop := fun xs H Q => (∃ i, xs = [.int i] ∧ i.natAbs.log2 < 1920 ∧ Q (.str (toString i)) H) ∨ ∃ a, xs = [.str a] ∧ Q (.str a) H
theorem call_strB {X : Cx} : CallR X (.type "str") rStrB := by
  intro pins s σ H xs us Q I r h
  rcases h with h | h
  · exact call_str_int pins s σ H xs us Q I r h
  · exact SkE.call_str_str pins s σ H xs us Q I r h
def strH : V → V
  | .int n => .str (numS n)
  | v => v
theorem strH_all (s : Stp) : (stV s).map strH = (s.w :: s.ns.map numS).map V.str := by
  unfold stV
  rw [List.map_cons, List.map_map, List.map_cons, List.map_map]; rfl
/-- a comprehension over a tuple whose step may lay new objects, its items by place -/
theorem comp_tupI {K : PySem.W.Frag} {a D : Addr} {xs : List V} {g : TG} {te : TE} {vs : List Nat} {σ : L2.St} {H1 : Hp} {Qd : Hp → Prop} (G : Nat → V) (hx : SqT K H1 a xs) (hD : H1 D = none) (hl : xs.length ≤ 1000)
    (hs : ∀ (i : Nat) (x : V) (H : Hp) (Nx : V → Hp → Prop), xs[i]? = some x → Same H1 H → (∀ H', Same H H' → Nx (G i) H') → g x (wipe σ vs) H fun σ2 H2 => wipe σ2 vs = wipe σ vs ∧ te σ2 H2 Nx)
    (hd : ∀ H, Same H1 H → H D = some (.lst ((List.range xs.length).map G)) → Qd H) :
    ∃ W : Nat → Nat → Hp → Prop, (∃ m, W 0 m (upd H1 D (.lst []))) ∧ ∀ i m H, W i m H →
      ((Itt K a).stop i H ∧ Qd H) ∨ ((Itt K a).go i H ∧ ∃ Nx : Hp → Prop, (∀ H', Nx H' → ∃ m', m' < m ∧ W (i + 1) m' H') ∧ ∀ x H', (Itt K a).yld i H x H' → g x (wipe σ vs) H' fun σ2 H2 => wipe σ2 vs = wipe σ vs ∧ tYes σ2 H2 fun b H3 =>
        if b = true then te σ2 H3 fun y H4 => ∃ acc, H4 D = some (.lst acc) ∧ acc.length < sizeLine ∧ Nx (upd H4 D (.lst (acc ++ [y]))) else Nx H3) := by
  refine lc_tup (xs := xs) (fun i H => Same H1 H ∧ i ≤ xs.length ∧ H D = some (.lst ((List.range i).map G))) ⟨same_new hD _, Nat.zero_le _, upd_same⟩ (fun i H _ h => Same.seqT h.1 hx) (fun i x H hix h => ?_) (fun H h => hd H h.1 h.2.2)
  have hi : i < xs.length := (List.getElem?_eq_some_iff.mp hix).1
  have := hs i x H (fun y H4 => ∃ acc, H4 D = some (.lst acc) ∧ acc.length < sizeLine ∧ (Same H1 (upd H4 D (.lst (acc ++ [y]))) ∧ i + 1 ≤ xs.length ∧ (upd H4 D (.lst (acc ++ [y]))) D = some (.lst ((List.range (i + 1)).map G)))) hix h.1
    fun H' sm => ⟨_, sm _ _ h.2.2, small1000 (by rw [List.length_map, List.length_range]; omega), fun b o e => by rw [upd_ne (ne_of_none e hD)]; exact sm _ _ (h.1 b o e), hi, by rw [upd_same, List.range_succ, List.map_append]; rfl⟩
  exact this
end KG
namespace KH
open PySem PySem.Spec PyProof.Rows L2 KG
abbrev swrite_drawing : Stmt := topS 10
abbrev Nwrite_drawing : List Str := ["drawing", "step", "part"]
theorem scwrite_drawing : FnScope Nwrite_drawing ["drawing"] (defScope swrite_drawing) := ⟨rfl, rfl, rfl, by decide +kernel, rfl, by decide +kernel, by decide +kernel⟩
section
variable {P : Program} {w : World} {K : PySem.W.Frag} {mg : Str → Option Value} {base : Heap}
def sp_write_drawing (K : PySem.W.Frag) : Sp := fun vs H Q _ => ∃ (t : Addr) (us : List V) (ss : List Stp), vs = [.ref t] ∧ H t = some (.tup us) ∧ SAt H us ss ∧ ss.length ≤ 1000 ∧ (∀ s ∈ ss, SForm s ∧ Small s) ∧ ∀ H', Same H H' → Q (.str (Txt.join "\n" (ss.map lineOf))) H'
theorem line_small {s : Stp} (h : SForm s) (k : Small s) : ((s.w :: s.ns.map numS).map (·.length)).sum + (s.w :: s.ns.map numS).length * 1 ≤ 6000 := by
  obtain ⟨lw, l3, _⟩ := form_len h
  have wl := word_len s.ns k
  rw [List.map_cons, List.sum_cons, List.length_cons, List.length_map]
  have : 1921 * s.ns.length ≤ 1921 * 3 := Nat.mul_le_mul_left _ l3
  omega
theorem line_long {s : Stp} (h : SForm s) (k : Small s) : (lineOf s).length ≤ 6000 := by
  have := sep_blank.join_len (s.w :: s.ns.map numS)
  have := line_small h k
  unfold lineOf
  omega
theorem lines_fit {ss : List Stp} (h : ∀ s ∈ ss, SForm s ∧ Small s) (l : ss.length ≤ 1000) : ((ss.map lineOf).map (·.length)).sum + (ss.map lineOf).length * 1 ≤ 6001000 := by
  have h1 := sum_le (ps := ss.map lineOf) (B := 6000) fun p hp => by
    obtain ⟨s, hs, rfl⟩ := List.mem_map.mp hp
    exact line_long (h s hs).1 (h s hs).2
  rw [List.length_map] at h1 ⊢
  omega
theorem ok_write_drawing {f : Addr} {fd : FuncData} {k : Nat} (F : Fun K "write_drawing" "write_drawing" swrite_drawing f fd) (M : Names mg) : FnOk P w K mg base CX0 (k + 1) f fd ["drawing"] (sp_write_drawing K) := by
  refine F.ok scwrite_drawing (fun vs H Q E h => ?_) (fun cdv A outer s H vs Q E hr h => ?_)
  · obtain ⟨t, us, ss, rfl, _⟩ := h
    rfl
  obtain ⟨t, us, ss, rfl, ht, hss, hl, hf, fin⟩ := h
  refine ⟨_, (pss_one (ps_ret (pe_join pe_str (pe_lc (own := [("step", 1)]) (g := gName 1) (by rfl) scwrite_drawing.nd (pi_tup (pv 0)) (blkOk_by (own := [("step", 1)]) (N := Nwrite_drawing) (sc := defScope swrite_drawing) (by decide +kernel)) (fun _ _ _ _ _ => pg_name (i := 1) scwrite_drawing.nd rfl (Or.inl rfl)) (fun _ _ _ _ _ => pts_nil) (fun _ _ _ _ _ => by exact (pe_joinK (K := K) rfl pe_str (pe_lc (own := [("part", 2)]) (g := gName 2) (by rfl) scwrite_drawing.nd (pi_tupK (K := K) rfl (pv 1)) (blkOk_by (own := [("part", 2)]) (N := Nwrite_drawing) (by rfl)) (fun _ _ _ _ _ => pg_name (i := 2) scwrite_drawing.nd rfl (Or.inl rfl)) (fun _ _ _ _ _ => pts_nil) (fun _ _ _ _ _ => (pe_callTy call_strB (by rfl) M.str (by decide +kernel) (pa_cons (pv 2) pa_nil)))))))))), ?_⟩
  have lus := hss.len
  refine ⟨⟨_, rfl⟩, _, rfl, t, rfl, ⟨_, SqT.of ht⟩, fun D nD => comp_tupI (fun i => V.str (((ss.map lineOf).getD i "" : Str))) (xs := us) (SqT.of ht) nD (by omega) (fun i x H4 Nx hx s4 hN => ?_) (fun H4 s4 hD => ?_)⟩
  · have hi : i < ss.length := by
      have := (List.getElem?_eq_some_iff.mp hx).1
      omega
    have gs : ss[i]? = some ss[i] := List.getElem?_eq_getElem hi
    obtain ⟨fo, sl⟩ := hf _ (List.getElem_mem hi)
    have gl : (ss.map lineOf).getD i "" = lineOf ss[i] := by rw [List.getD_eq_getElem?_getD, List.getElem?_map, gs]; rfl
    rw [gl] at hN
    generalize ss[i] = st at gs fo sl hN
    obtain ⟨tx, htx, etx⟩ := (hss.same s4).get gs
    obtain rfl : x = .ref tx := Option.some.inj (hx.symm.trans htx)
    have lst : (stV st).length = st.ns.length + 1 := by simp [stV]
    obtain ⟨lw, l3, l2⟩ := form_len fo
    refine ⟨rfl, ⟨_, rfl⟩, _, rfl, tx, rfl, ⟨_, SqT.of etx⟩, fun D2 nD2 => comp_tup strH (xs := stV st) (SqT.of etx) nD2 (by omega) (fun j y H5 Ny hy s5 hM => ?_) (fun H5 s5 hD2 => ?_)⟩
    · refine ⟨rfl, _, rfl, ?_⟩
      cases j with
      | zero =>
        obtain rfl : V.str st.w = y := Option.some.inj hy
        exact .inr ⟨_, rfl, hM⟩
      | succ j =>
        have hy : (st.ns.map V.int)[j]? = some y := hy
        obtain ⟨hj, rfl⟩ := map_mem hy
        exact .inl ⟨_, rfl, sl _ (co_mem hj), hM⟩
    · rw [strH_all] at hD2
      refine ⟨" ", D2, _, rfl, rfl, .inl (SqL.of hD2), ?_, hN _ s5⟩
      rw [show (" " : Str).length = 1 by decide +kernel]
      exact Nat.le_trans (line_small fo sl) (by decide)
  · have e : (List.range us.length).map (fun i => V.str (((ss.map lineOf).getD i "" : Str))) = (ss.map lineOf).map V.str := by
      apply List.ext_getElem?
      intro i
      rw [List.getElem?_map, List.getElem?_map]
      by_cases hi : i < us.length
      · rw [List.getElem?_range hi]
        have hi2 : i < (ss.map lineOf).length := by rw [List.length_map]; omega
        rw [List.getElem?_eq_getElem hi2]
        show some (V.str ((ss.map lineOf).getD i "")) = some (V.str (ss.map lineOf)[i])
        rw [List.getD_eq_getElem?_getD, List.getElem?_eq_getElem hi2]; rfl
      · rw [List.getElem?_eq_none (by rw [List.length_range]; omega), List.getElem?_eq_none (by rw [List.length_map]; omega)]; rfl
    rw [e] at hD
    refine ⟨"\n", D, _, rfl, rfl, .inl (SqL.of hD), ?_, fin _ s4⟩
    rw [show ("\n" : Str).length = 1 by decide +kernel]
    exact Nat.le_trans (lines_fit hf hl) (by decide)
end
end KH

namespace KG
open PySem PySem.Spec PyProof.Rows L2
/-! lines written and read again -/
theorem num_free {n : Int} {c : Nat} (h : c = 10 ∨ c = 32) : c ∉ TL.tl (numS n) := by
  rw [tl_numS]
  unfold signs
  have hl : c ∉ TL.numL n.natAbs := TL.numL_free (.inl (by omega))
  split
  · intro hm
    rcases List.mem_cons.mp hm with e | e
    · omega
    · exact hl e
  · exact hl
theorem word_free {s : Stp} (h : SForm s) {c : Nat} (hc : c = 10 ∨ c = 32) : c ∉ TL.tl s.w := by
  rcases h with ⟨e, _⟩ | ⟨e, _⟩ | ⟨e, _⟩ | ⟨e, _⟩ <;> rw [e] <;> rcases hc with rfl | rfl <;> decide +kernel
theorem parts_free {s : Stp} (h : SForm s) {c : Nat} (hc : c = 10 ∨ c = 32) : ∀ p ∈ s.w :: s.ns.map numS, c ∉ TL.tl p := fun p hp => by
  rcases List.mem_cons.mp hp with e | e
  · rw [e]; exact word_free h hc
  · obtain ⟨n, _, rfl⟩ := List.mem_map.mp e
    exact num_free hc
theorem line_free {s : Stp} (h : SForm s) : 10 ∉ TL.tl (lineOf s) := fun hc => by
  rcases sep_blank.join_mem _ 10 hc with q | ⟨p, hp, q⟩
  · exact absurd q (by decide)
  · exact parts_free h (.inl rfl) p hp q
theorem line_split {s : Stp} (h : SForm s) : Txt.split (lineOf s) " " = s.w :: s.ns.map numS := sep_blank.back (List.cons_ne_nil _ _) (parts_free h (.inr rfl))
theorem line_ok {s : Stp} (h : SForm s) (k : Small30 s) : lineOk (lineOf s) = true := by
  have hk : (kind3 (s.w :: s.ns.map numS) || kind4 (s.w :: s.ns.map numS)) = true := by
    unfold kind3 kind4
    rw [show w0 (s.w :: s.ns.map numS) = .str s.w from rfl, in2, in2, List.length_cons, List.length_map]
    rcases h with ⟨e, l⟩ | ⟨e, l⟩ | ⟨e, l⟩ | ⟨e, l⟩ <;> rw [e, l] <;> decide +kernel
  have ha : (s.ns.map numS).all isWhole = true := by
    rw [List.all_eq_true]
    intro x hx
    obtain ⟨n, hn, rfl⟩ := List.mem_map.mp hx
    exact whole_num (k n hn)
  unfold lineOk
  rw [line_split h]
  unfold isLine
  rw [hk]
  exact ha
theorem nums_inj : ∀ a b : List Int, a.map numS = b.map numS → a = b
  | [], [], _ => rfl
  | [], _ :: _, e => by cases e
  | _ :: _, [], e => by cases e
  | x :: a, y :: b, e => by
    rw [List.map_cons, List.map_cons] at e
    obtain ⟨e5, e6⟩ := List.cons.inj e
    rw [numS_inj e5, nums_inj a b e6]
theorem line_inj {s t : Stp} (h : SForm s) (k : SForm t) (e : lineOf s = lineOf t) : s = t := by
  have e2 := line_split h
  rw [e, line_split k] at e2
  obtain ⟨e3, e4⟩ := List.cons.inj e2
  obtain ⟨w, ns⟩ := s
  obtain ⟨w', ns'⟩ := t
  have e5 : ns' = ns := nums_inj ns' ns e4
  have e3 : w' = w := e3
  rw [e3, e5]
theorem lines_inj : ∀ {ss ts : List Stp}, (∀ s ∈ ss, SForm s) → (∀ s ∈ ts, SForm s) → ss.map lineOf = ts.map lineOf → ss = ts
  | [], [], _, _, _ => rfl
  | [], _ :: _, _, _, e => by cases e
  | _ :: _, [], _, _, e => by cases e
  | s :: ss, t :: ts, h, k, e => by
    rw [List.map_cons, List.map_cons] at e
    obtain ⟨e1, e2⟩ := List.cons.inj e
    rw [line_inj (h s List.mem_cons_self) (k t List.mem_cons_self) e1, lines_inj (fun s hs => h s (List.mem_cons_of_mem _ hs)) (fun s hs => k s (List.mem_cons_of_mem _ hs)) e2]
theorem text_split {ss : List Stp} (h : ∀ s ∈ ss, SForm s) (hne : ss ≠ []) : Txt.split (Txt.join "\n" (ss.map lineOf)) "\n" = ss.map lineOf := sep_line.back (fun e => hne (List.map_eq_nil_iff.mp e)) fun p hp => by
  obtain ⟨s, hs, rfl⟩ := List.mem_map.mp hp
  exact line_free (h s hs)
theorem text_empty {ss : List Stp} (h : ∀ s ∈ ss, SForm s) (e : Txt.join "\n" (ss.map lineOf) = "") : ss = [] := by
  cases ss with
  | nil => rfl
  | cons s r =>
    have e2 := text_split h (List.cons_ne_nil _ _)
    rw [e] at e2
    have e3 : Txt.split "" "\n" = ([""] : List Str) := by decide +kernel
    rw [e3, List.map_cons] at e2
    have e4 := (List.cons.inj e2).1
    have e5 := line_split (h s List.mem_cons_self)
    rw [← e4, show Txt.split "" " " = ([""] : List Str) by decide +kernel] at e5
    have e6 := (List.cons.inj e5).1
    rcases h s List.mem_cons_self with ⟨e, _⟩ | ⟨e, _⟩ | ⟨e, _⟩ | ⟨e, _⟩ <;> rw [e] at e6 <;> exact absurd e6 (by decide +kernel)
theorem text_ok {ss : List Stp} (h : ∀ s ∈ ss, SForm s ∧ Small30 s) : badL (ss.map lineOf) = none := firstNot_none fun j hj => by
  rw [List.length_map] at hj
  rw [List.getD_eq_getElem?_getD, List.getElem?_map, List.getElem?_eq_getElem hj]
  exact line_ok (h _ (List.getElem_mem hj)).1 (h _ (List.getElem_mem hj)).2
/-! steps as data -/
def stD (s : Stp) : PyData := .tuple (.str s.w :: s.ns.map PyData.int)
theorem dp_st {K : PySem.W.Frag} {H : Hp} {us : List V} {ss : List Stp} (h : SAt H us ss) : DpAll K H us (ss.map stD) := by
  induction h with
  | nil => exact .nil
  | cons e _ ih => exact .cons (.tup (SqT.of e) (.cons (.str _) (dp_all _))) ih
theorem int_short {n : Int} (h : n.natAbs < 10 ^ 30) : (numS n).length ≤ 31 := by
  obtain ⟨_, _, _, _, h4⟩ := canon_read (whole_num h)
  exact h4
theorem ints_show : ∀ {ns : List Int}, (∀ n ∈ ns, n.natAbs < 10 ^ 30) → PyData.showableAll (ns.map PyData.int) = true ∧ PyData.hasDictAll (ns.map PyData.int) = false ∧ PyData.depthAll (ns.map PyData.int) = 0 ∧ PyData.leavesShortAll 40 (ns.map PyData.int) = true ∧ PyData.bulkAll (ns.map PyData.int) = ns.length
  | [], _ => ⟨rfl, rfl, rfl, rfl, rfl⟩
  | n :: ns, h => by
    obtain ⟨h1, h2, h3, h4, h5⟩ := ints_show fun m hm => h m (List.mem_cons_of_mem _ hm)
    have a := h n List.mem_cons_self
    have b := small_log a
    have c := int_short a
    refine ⟨?_, ?_, ?_, ?_, ?_⟩
    · show (decide (n.natAbs.log2 < 1920) && _) = true
      rw [decide_eq_true b, h1]; rfl
    · show (false || _) = false
      rw [h2]; rfl
    · show max 0 _ = 0
      rw [h3]; rfl
    · show (decide ((numS n).length ≤ 40) && _) = true
      rw [decide_eq_true (show (numS n).length ≤ 40 by omega), h4]; rfl
    · show 0 + 1 + PyData.bulkAll (ns.map PyData.int) = ns.length + 1
      rw [h5]; omega
theorem steps_show : ∀ {ss : List Stp}, (∀ s ∈ ss, SForm s ∧ Small30 s) → PyData.showableAll (ss.map stD) = true ∧ PyData.hasDictAll (ss.map stD) = false ∧ PyData.depthAll (ss.map stD) ≤ 1 ∧ PyData.leavesShortAll 40 (ss.map stD) = true ∧ PyData.bulkAll (ss.map stD) ≤ 11 * ss.length
  | [], _ => ⟨rfl, rfl, Nat.zero_le _, rfl, Nat.zero_le _⟩
  | s :: ss, h => by
    obtain ⟨h1, h2, h3, h4, h5⟩ := steps_show fun m hm => h m (List.mem_cons_of_mem _ hm)
    obtain ⟨fo, sm⟩ := h s List.mem_cons_self
    obtain ⟨a1, a2, a3, a4, a5⟩ := ints_show sm
    obtain ⟨lw, l3, _⟩ := form_len fo
    have ws : (s.w.cps.toList.all fun c => decide (c < 16 ^ 8)) = true := by
      rcases fo with ⟨e, _⟩ | ⟨e, _⟩ | ⟨e, _⟩ | ⟨e, _⟩ <;> rw [e] <;> decide +kernel
    refine ⟨?_, ?_, ?_, ?_, ?_⟩
    · show ((true && PyData.showableAll (s.ns.map PyData.int)) && PyData.showableAll (ss.map stD)) = true
      rw [a1, h1]; rfl
    · show ((false || PyData.hasDictAll (s.ns.map PyData.int)) || PyData.hasDictAll (ss.map stD)) = false
      rw [a2, h2]; rfl
    · show max (max 0 (PyData.depthAll (s.ns.map PyData.int)) + 1) (PyData.depthAll (ss.map stD)) ≤ 1
      rw [a3]; omega
    · show (((s.w.cps.toList.all fun c => decide (c < 16 ^ 8)) && PyData.leavesShortAll 40 (s.ns.map PyData.int)) && PyData.leavesShortAll 40 (ss.map stD)) = true
      rw [ws, a4, h4]; rfl
    · show (s.w.cps.size + 1 + PyData.bulkAll (s.ns.map PyData.int)) + 1 + PyData.bulkAll (ss.map stD) ≤ 11 * (ss.length + 1)
      have lw : s.w.cps.size ≤ 6 := lw
      rw [a5]; omega
theorem draw_show {ss : List Stp} (h : ∀ s ∈ ss, SForm s ∧ Small30 s) (l : ss.length ≤ 1000) : (PyData.tuple (ss.map stD)).showable = true ∧ (PyData.tuple (ss.map stD)).hasDict = false ∧ (PyData.tuple (ss.map stD)).depth ≤ 60 ∧ (PyData.tuple (ss.map stD)).shown.length ≤ sizeLine := by
  obtain ⟨h1, h2, h3, h4, h5⟩ := steps_show h
  refine ⟨h1, h2, ?_, ?_⟩
  · show PyData.depthAll (ss.map stD) + 1 ≤ 60
    omega
  · have := PyData.shown_le_bulk 40 (by decide) (PyData.tuple (ss.map stD)) h4
    have e : (PyData.tuple (ss.map stD)).bulk = PyData.bulkAll (ss.map stD) := rfl
    rw [e] at this
    rw [sizeLine_eq]
    have : (40 + 2) * PyData.bulkAll (ss.map stD) ≤ 42 * 11000 := Nat.mul_le_mul_left _ (by omega)
    omega
end KG
namespace KH
open PySem PySem.Spec PyProof.Rows L2 KG
abbrev s_law_text : Stmt := topS 15
abbrev N_law_text : List Str := ["steps", "lines", "step", "number"]
theorem sc_law_text : FnScope N_law_text ["steps"] (defScope s_law_text) := ⟨rfl, rfl, rfl, by decide +kernel, rfl, by decide +kernel, by decide +kernel⟩
section
variable {P : Program} {w : World} {K : PySem.W.Frag} {mg : Str → Option Value} {base : Heap}
def sp_law_text : Sp := fun vs H Q _ => ∃ (l : Addr) (us : List V) (ss : List Stp), vs = [.ref l] ∧ H l = some (.lst us) ∧ SAt H us ss ∧ ss.length ≤ 1000 ∧ (∀ s ∈ ss, SForm s ∧ Small s) ∧ ∀ H', Same H H' → Q (.str (Txt.join "\n" (ss.map lineOf))) H'
theorem ok_law_text {f : Addr} {fd : FuncData} {k : Nat} (F : Fun K "_law_text" "_law_text" s_law_text f fd) (M : Names mg) : FnOk P w K mg base CX0 (k + 1) f fd ["steps"] sp_law_text := by
  refine F.ok sc_law_text (fun vs H Q E h => ?_) (fun cdv A outer s H vs Q E hr h => ?_)
  · obtain ⟨l, us, ss, rfl, _⟩ := h
    rfl
  obtain ⟨l, us, ss, rfl, hl, hss, h500, hf, fin⟩ := h
  have lus := hss.len
  refine ⟨_, (pss_cons (ps_set (i := 1) sc_law_text.nd rfl (.inl rfl) (pe_lst pa_nil))
    (pss_cons (ps_for PassesOwn.never rfl (pi_list (pv 0)) (pg_name (i := 2) sc_law_text.nd rfl (.inl rfl))
      (pss_one (ps_expr (pe_bm PySem.F.plainAttrs_list PySem.F.slot_list_append PySem.F.type_list_append mt_append (pv 1) (pa_cons (pe_join pe_str (pe_op op_cat (pe_lst (pa_cons (pe_ix ix_tup (pv 2) pe_int (fun _ _ => rfl)) pa_nil)) (pe_lc (own := [("number", 3)]) (g := gName 3) (by rfl) sc_law_text.nd (pi_tup (pe_slice sl_tup (pv 2) (po_some pe_int) po_none)) (blkOk_by (own := [("number", 3)]) (N := N_law_text) (sc := defScope s_law_text) (by decide +kernel)) (fun _ _ _ _ _ => pg_name (i := 3) sc_law_text.nd rfl (Or.inl rfl)) (fun _ _ _ _ _ => pts_nil) (fun _ _ _ _ _ => (pe_callTy call_str_int (by rfl) M.str (by decide +kernel) (pa_cons (pv 3) pa_nil)))))) pa_nil)))))
    (pss_one (ps_ret (pe_join pe_str (pv 1)))))), ?_⟩
  refine ⟨Nat.zero_le _, fun q nq => ?_⟩
  have S1 := same_new nq (.lst [])
  refine ⟨_, rfl, l, rfl, ⟨_, SqL.of (S1 _ _ hl)⟩, for_list (xs := us) (fun i σ H' => ∃ y2 y3 : Option V, σ = [some (.ref l), some (.ref q), y2, y3] ∧ Same H H' ∧ H' q = some (.lst ((ss.take i).map fun s => V.str (lineOf s))))
    ⟨none, none, rfl, S1, upd_same⟩ (fun i σ H' _ hP => by obtain ⟨_, _, _, sm, _⟩ := hP; exact SqL.of (sm _ _ hl)) (fun i x σ H' hx hP => ?_) (fun σ H' hP => ?_)⟩
  · obtain ⟨y2, y3, rfl, sm, hq⟩ := hP
    have hi : i < ss.length := by
      have := (List.getElem?_eq_some_iff.mp hx).1
      omega
    have gs : ss[i]? = some ss[i] := List.getElem?_eq_getElem hi
    obtain ⟨fo, sl⟩ := hf _ (List.getElem_mem hi)
    generalize hst : ss[i] = st at gs fo sl
    obtain ⟨t, ht, et⟩ := (hss.same sm).get gs
    obtain rfl : x = .ref t := Option.some.inj (hx.symm.trans ht)
    obtain ⟨lw, l3, l2⟩ := form_len fo
    have lst : (stV st).length = st.ns.length + 1 := by simp [stV]
    have h0 : atI (stV st) 0 = some (.str st.w) := atI_nat (j := 0) rfl
    refine ⟨_, rfl, .inl ⟨rfl, _, .inl (.inl hq)⟩, ⟨_, rfl⟩, _, rfl, t, _, _, _, rfl, rfl, SqT.of et, h0, (by show 1 ≤ sizeLine; decide), fun q1 n1 => ?_⟩
    have S2 := same_new n1 (.lst [V.str st.w])
    refine ⟨_, rfl, _, rfl, t, _, rfl, SqT.of (S2 _ _ et), not_whole (i := 1) (by decide) (by omega), fun c nc => ?_⟩
    have S3 := same_new nc (.tup (cutV (stV st) (some 1) none))
    have ec : (upd (upd H' q1 (.lst [V.str st.w])) c (.tup (cutV (stV st) (some 1) none))) c = some (.tup (st.ns.map V.int)) := by
      rw [upd_same, show cutV (stV st) (some 1) none = (stV st).drop 1 from cut_from _ 1 (by omega)]; rfl
    refine ⟨c, rfl, ⟨_, SqT.of ec⟩, fun D nD => comp_tup strG (xs := st.ns.map V.int) (SqT.of ec) nD (by rw [List.length_map]; omega) (fun j x H4 Nx hxj s4 hN => ?_) (fun H4 s4 hD => ?_)⟩
    · obtain ⟨hj, rfl⟩ := map_mem hxj
      exact ⟨rfl, _, rfl, _, rfl, sl _ (co_mem hj), hN⟩
    · have S14 := S2.trans (S3.trans s4)
      have hq1 := (S3.trans s4) _ _ (show (upd H' q1 (.lst [V.str st.w])) q1 = some (.lst [V.str st.w]) from upd_same)
      refine ⟨q1, D, _, _, rfl, rfl, hq1, hD, Nat.le_of_lt (small1000 (by rw [List.length_map, List.length_map, List.length_singleton]; omega)), fun q3 n3 => ?_⟩
      have S5 := same_new n3 (.lst ([V.str st.w] ++ (st.ns.map V.int).map strG))
      refine ⟨_, q3, st.w :: st.ns.map numS, rfl, rfl, .inl (SqL.of (by rw [upd_same, strG_all])), ?_, ?_⟩
      · rw [show (" " : Str).length = 1 by decide +kernel]
        exact Nat.le_trans (line_small fo sl) (by decide)
      have hq5 := (S14.trans S5) _ _ hq
      refine ⟨q, _, _, rfl, rfl, hq5, small1000 (by rw [List.length_map, List.length_take]; omega), ?_⟩
      refine ⟨_, _, rfl, same_put (sm.trans (S14.trans S5)) nq, ?_⟩
      rw [upd_same, List.take_add_one, gs, List.map_append]; rfl
  · obtain ⟨y2, y3, rfl, sm, hq⟩ := hP
    rw [lus, List.take_length, show (ss.map fun s => V.str (lineOf s)) = (ss.map lineOf).map V.str by rw [List.map_map]; rfl] at hq
    refine ⟨⟨_, rfl⟩, _, rfl, "\n", q, ss.map lineOf, rfl, rfl, .inl (SqL.of hq), ?_, fin _ sm⟩
    rw [show ("\n" : Str).length = 1 by decide +kernel]
    exact Nat.le_trans (lines_fit hf h500) (by decide)
end
end KH

namespace KG
open PySem PySem.Spec PyProof.Rows L2
theorem SAt.flat {H : Hp} {us : List V} {ss : List Stp} (h : SAt H us ss) : ∀ n, SAt H (List.replicate n us).flatten (List.replicate n ss).flatten
  | 0 => .nil
  | n + 1 => by
    rw [List.replicate_succ, List.replicate_succ, List.flatten_cons, List.flatten_cons]
    exact h.append (SAt.flat h n)
theorem small30_new {ss : List Stp} {m : Int} {s : Stp} (h : SNew ss m s) (hm : m < 10 ^ 30) (hl : ss.length ≤ 100000) : Small30 s := by
  have big : (100001 : Nat) < 10 ^ 30 := by decide +kernel
  have e : ((10 ^ 30 : Nat) : Int) = (10 : Int) ^ 30 := by decide +kernel
  have hm' : ∀ n : Int, -m ≤ n → n ≤ m → n.natAbs < 10 ^ 30 := fun n a b => by
    have h3 : (n.natAbs : Int) ≤ m := by omega
    have h4 : (n.natAbs : Int) < ((10 ^ 30 : Nat) : Int) := by rw [e]; exact Int.lt_of_le_of_lt h3 hm
    exact Int.ofNat_lt.mp h4
  have nm : ∀ b i, Nm1 ss b i → i.natAbs < 10 ^ 30 := fun b i ⟨h0, s, hs, _⟩ => by
    have := (List.getElem?_eq_some_iff.mp hs).1
    exact Nat.lt_of_le_of_lt (show i.natAbs ≤ 100001 by omega) big
  rcases h with ⟨x, y, rfl, a, b, c, d⟩ | ⟨i, j, rfl, a, b⟩ | ⟨i, j, k, rfl, a, b, c⟩ | ⟨i, j, w, rfl, a, b, c, d⟩
  · intro n hn
    rcases List.mem_cons.mp hn with rfl | hn
    · exact hm' _ a b
    · rw [List.mem_singleton.mp hn]; exact hm' _ c d
  · intro n hn
    rcases List.mem_cons.mp hn with rfl | hn
    · exact nm _ _ a
    · rw [List.mem_singleton.mp hn]; exact nm _ _ b
  · intro n hn
    rcases List.mem_cons.mp hn with rfl | hn
    · exact nm _ _ a
    rcases List.mem_cons.mp hn with rfl | hn
    · exact nm _ _ b
    · rw [List.mem_singleton.mp hn]; exact nm _ _ c
  · intro n hn
    rcases List.mem_cons.mp hn with rfl | hn
    · exact nm _ _ a
    rcases List.mem_cons.mp hn with rfl | hn
    · exact nm _ _ b
    · rw [List.mem_singleton.mp hn]; exact Nat.lt_of_le_of_lt (show w.natAbs ≤ 100001 by omega) big
def three : List Stp := [⟨"point", [5, -7]⟩, ⟨"line", [0, 1]⟩, ⟨"meet", [2, 3, 1]⟩]
theorem three_ok : ∀ s ∈ three, SForm s ∧ Small30 s := by
  intro s hs
  have sm : ∀ l : List Int, (∀ n ∈ l, n.natAbs < 10) → ∀ n ∈ l, n.natAbs < 10 ^ 30 := fun l h n hn => Nat.lt_trans (h n hn) (by decide +kernel)
  rcases List.mem_cons.mp hs with rfl | hs
  · exact ⟨.inl ⟨rfl, rfl⟩, sm _ (by decide)⟩
  rcases List.mem_cons.mp hs with rfl | hs
  · exact ⟨.inr (.inl ⟨rfl, rfl⟩), sm _ (by decide)⟩
  · rw [List.mem_singleton.mp hs]
    exact ⟨.inr (.inr (.inr ⟨rfl, rfl⟩)), sm _ (by decide)⟩
theorem flat_mem {ss : List Stp} {n : Nat} {s : Stp} (h : s ∈ (List.replicate n ss).flatten) : s ∈ ss := by
  obtain ⟨l, h1, h2⟩ := List.mem_flatten.mp h
  rw [(List.mem_replicate.mp h1).2] at h2
  exact h2
theorem flat_len {α : Type} (l : List α) (n : Nat) : (List.replicate n l).flatten.length = n * l.length := by
  induction n with
  | zero => rw [Nat.zero_mul]; rfl
  | succ n ih => rw [List.replicate_succ, List.flatten_cons, List.length_append, ih, Nat.succ_mul, Nat.add_comm]
theorem cut_to2 (xs : List V) (n : Nat) (h : n ≤ xs.length) : cutV xs none (some (n : Int)) = xs.take n := cut_to xs n h
end KG
namespace KH
open PySem PySem.Spec PyProof.Rows L2 KG
abbrev slaw : Stmt := topS 16
abbrev Nlaw : List Str := ["script", "state", "most", "steps", "n", "step", "drawing", "text", "told", "back"]
theorem sclaw : FnScope Nlaw ["script"] (defScope slaw) := ⟨rfl, rfl, rfl, by decide +kernel, rfl, by decide +kernel, by decide +kernel⟩
theorem st_law (x : V) : L2.start Nlaw [x] = [some x, none, none, none, none, none, none, none, none, none] := rfl
section
variable {P : Program} {w : World} {K : PySem.W.Frag} {mg : Str → Option Value} {base : Heap} {C : Addr}
def sp_rdq (C : Addr) : Sp := fun vs H Q _ => sp_read_drawing C vs H Q fun _ _ _ => False
set_option maxHeartbeats 8000000 in
theorem oklaw {f : Addr} {fd : FuncData} {k : Nat} (F : Fun K "law" "law" slaw f fd) (M : Names mg) (G_law_state : Cal P w K mg base k "_law_state" ["script"] (sp_law_state K)) (G_law_take : Cal P w K mg base k "_law_take" ["state", "many"] (sp_law_take K))
    (G_law_drawn_step : Cal P w K mg base k "_law_drawn_step" ["state", "steps", "most"] (sp_law_drawn_step K)) (G_law_text : Cal P w K mg base k "_law_text" ["steps"] sp_law_text) (Gwrite_drawing : Cal P w K mg base k "write_drawing" ["drawing"] (sp_write_drawing K))
    (Gread_drawing : Cal P w K mg base k "read_drawing" ["text"] (sp_rdq C)) {a : Addr} {ns : List Int} {s : Shared} {H : Hp} (room : Room (k + 1) callerA) (e0 : Env0 P w K mg base callerA [] s H) (bind : BindsTo s fd ⟨[.ref a], []⟩ [("script", .ref a)]) (hS : SqL K H a (ns.map V.int)) (h63 : ns.length ≤ 63) :
    codeAny (model P w) callerA (.call (.ref f) ⟨[.ref a], []⟩) (CR CX0 [] P w H s (fun v _ => v = .bl true) fun _ _ _ => False) s := by
  refine fun_here F sclaw room e0 (us := [.ref a]) (vs := [.ref a]) bind (.cons rfl .nil) rfl (fun cdv hr => ?_)
  refine ⟨_, (pss_cons (ps_set (i := 1) sclaw.nd rfl (.inl rfl) (pe_call G_law_state.ok hr (by rfl) G_law_state.m G_law_state.kp G_law_state.b .nil pass0 (pa_cons (pv 0) pa_nil)))
    (pss_cons (ps_set (i := 2) sclaw.nd rfl (.inl rfl) (pe_ix ix_list (pe_lst (pa_cons pe_int (pa_cons pe_int (pa_cons (pe_op op_sub (pe_op op_pow pe_int pe_int) pe_int) pa_nil)))) (pe_call G_law_take.ok hr (by rfl) G_law_take.m G_law_take.kp G_law_take.b .nil pass0 (pa_cons (pv 1) (pa_cons pe_int pa_nil))) (fun _ _ => rfl)))
    (pss_cons (ps_set (i := 3) sclaw.nd rfl (.inl rfl) (pe_lst pa_nil))
    (pss_cons (ps_for PassesOwn.never rfl (pi_range1 (by rfl) M.range (pa_cons (pe_call G_law_take.ok hr (by rfl) G_law_take.m G_law_take.kp G_law_take.b .nil pass0 (pa_cons (pv 1) (pa_cons pe_int pa_nil))) pa_nil)) (pg_name (i := 4) sclaw.nd rfl (.inl rfl))
      (pss_cons (ps_set (i := 5) sclaw.nd rfl (.inl rfl) (pe_call G_law_drawn_step.ok hr (by rfl) G_law_drawn_step.m G_law_drawn_step.kp G_law_drawn_step.b .nil pass0 (pa_cons (pv 1) (pa_cons (pv 3) (pa_cons (pv 2) pa_nil)))))
      (pss_cons (ps_if (pt_cmpR op_eq (pe_call G_law_take.ok hr (by rfl) G_law_take.m G_law_take.kp G_law_take.b .nil pass0 (pa_cons (pv 1) (pa_cons pe_int pa_nil))) pe_int (nomark _))
        (pss_one (ps_set (i := 5) sclaw.nd rfl (.inl rfl) (pe_op op_catT (pe_slice sl_tup (pv 5) po_none (po_some (pe_op op_sub (pe_callB call_len_seq (by rfl) M.len PySem.boot_len (pa_cons (pv 5) pa_nil)) pe_int))) (pe_tup (pa_cons (pe_op op_sub (pe_call G_law_take.ok hr (by rfl) G_law_take.m G_law_take.kp G_law_take.b .nil pass0 (pa_cons (pv 1) (pa_cons (pe_op op_add (pe_op op_mul pe_int (pv 2)) pe_int) pa_nil))) (pv 2)) pa_nil)))))
        pss_nil)
      (pss_one (ps_expr (pe_bm PySem.F.plainAttrs_list PySem.F.slot_list_append PySem.F.type_list_append mt_append (pv 3) (pa_cons (pv 5) pa_nil)))))))
    (pss_cons (ps_if (pt_cmpR op_eq (pe_call G_law_take.ok hr (by rfl) G_law_take.m G_law_take.kp G_law_take.b .nil pass0 (pa_cons (pv 1) (pa_cons pe_int pa_nil))) pe_int (nomark _))
      (pss_one (ps_set (i := 3) sclaw.nd rfl (.inl rfl) (pe_op op_cat (pv 3) (pe_op op_rep (pe_lst (pa_cons (pe_tup (pa_cons pe_str (pa_cons pe_int (pa_cons (pe_un un_neg pe_int) pa_nil)))) (pa_cons (pe_tup (pa_cons pe_str (pa_cons pe_int (pa_cons pe_int pa_nil)))) (pa_cons (pe_tup (pa_cons pe_str (pa_cons pe_int (pa_cons pe_int (pa_cons pe_int pa_nil))))) pa_nil)))) (pe_op op_add pe_int (pe_call G_law_take.ok hr (by rfl) G_law_take.m G_law_take.kp G_law_take.b .nil pass0 (pa_cons (pv 1) (pa_cons pe_int pa_nil))))))))
      pss_nil)
    (pss_cons (ps_set (i := 6) sclaw.nd rfl (.inl rfl) (pe_callTy call_tuple_of (by rfl) M.tuple (by decide +kernel) (pa_cons (pv 3) pa_nil)))
    (pss_cons (ps_set (i := 7) sclaw.nd rfl (.inl rfl) (pe_call G_law_text.ok hr (by rfl) G_law_text.m G_law_text.kp G_law_text.b .nil pass0 (pa_cons (pv 3) pa_nil)))
    (pss_cons (ps_set (i := 8) sclaw.nd rfl (.inl rfl) (pe_call Gwrite_drawing.ok hr (by rfl) Gwrite_drawing.m Gwrite_drawing.kp Gwrite_drawing.b .nil pass0 (pa_cons (pv 6) pa_nil)))
    (pss_cons (ps_set (i := 9) sclaw.nd rfl (.inl rfl) (pe_call Gread_drawing.ok hr (by rfl) Gread_drawing.m Gread_drawing.kp Gread_drawing.b .nil pass0 (pa_cons (pv 7) pa_nil)))
    (pss_one (ps_ret (pe_and (pe_callB call_isi (by rfl) M.isinstance (by decide +kernel) (pa_cons (pv 8) (pa_cons (pe_bltn (v := .ty "str") (by rfl) M.str (by decide +kernel) rfl) pa_nil))) (pe_and (pe_cmpR op_eq (pv 8) (pv 7) (nomark _)) (pe_and (pe_callB call_isi (by rfl) M.isinstance (by decide +kernel) (pa_cons (pv 9) (pa_cons (pe_bltn (v := .ty "tuple") (by rfl) M.tuple (by decide +kernel) rfl) pa_nil))) (pe_one (pe_cmpR op_eq (pe_callB (call_reprD rfl hr.units) (by rfl) M.repr (by decide +kernel) (pa_cons (pv 9) pa_nil)) (pe_callB (call_reprD rfl hr.units) (by rfl) M.repr (by decide +kernel) (pa_cons (pv 6) pa_nil)) (nomark _))))))))))))))))), ?_⟩
  have lgN : ∀ n : Int, n.natAbs < 2 ^ 110 → n.natAbs.log2 < 9000 := fun n h => log_small (n := 110) h (by decide) (by decide)
  have smL : ∀ n : Nat, n ≤ 1000 → n ≤ sizeLine := fun n h => Nat.le_of_lt (small1000 h)
  refine ⟨_, rfl, a, ns, rfl, hS, h63, fun H1 p s1 hp X1 _ => ?_⟩
  -- most
  refine ⟨_, _, rfl, rfl, ⟨by decide, by decide, by decide⟩, _, _, rfl, rfl, (by show 3 ≤ sizeLine; decide), fun tm ntm => ?_⟩
  have Sm := same_new ntm (.lst [V.int 3, .int 1000, .int (10 ^ (30 : Int).toNat - 1)])
  have tmp : tm ≠ p := X1.ne ntm
  refine ⟨_, rfl, p, a, ns, _, rfl, X1.same Sm, seqO hS hp (s1.trans Sm), by decide, lgN _ (by decide), fun d0 H2 d00 d01 X2 b2 => ?_⟩
  obtain ⟨Mo, hMo, M0, M1⟩ : ∃ Mo : Int, atI [V.int 3, .int 1000, .int (10 ^ (30 : Int).toNat - 1)] d0 = some (.int Mo) ∧ 0 ≤ Mo ∧ Mo < 10 ^ 30 := by
    rcases (by omega : d0 = 0 ∨ d0 = 1 ∨ d0 = 2) with rfl | rfl | rfl
    · exact ⟨3, rfl, by decide, by decide +kernel⟩
    · exact ⟨1000, rfl, by decide, by decide +kernel⟩
    · exact ⟨10 ^ (30 : Int).toNat - 1, rfl, by decide +kernel, by decide +kernel⟩
  have Mb : Mo < 1000000000000000000000000000000 := M1
  refine ⟨tm, _, _, _, rfl, rfl, SqL.of (b2 _ _ tmp upd_same), hMo, ?_⟩
  have s2 := same_but (s1.trans Sm) b2 hp
  -- steps
  refine ⟨Nat.zero_le _, fun ls nls => ?_⟩
  have S3 := same_new nls (.lst [])
  have lsp : ls ≠ p := X2.ne nls
  have lsH : H ls = none := s2.free nls
  refine ⟨_, rfl, p, a, ns, _, rfl, X2.same S3, seqO hS hp (s2.trans S3), by decide, lgN _ (by decide), fun d1 H3 d10 d11 X3 b3 => ?_⟩
  have s3 := same_but (s2.trans S3) b3 hp
  refine ⟨_, rfl, by omega, by omega, for_range (lo := 0) (fun k σ H' => ∃ (us : List V) (ss : List Stp) (y4 y5 : Option V), σ = [some (.ref a), some (.ref p), some (.int Mo), some (.ref ls), y4, y5, none, none, none, none] ∧ StX H' p a ns ∧ Same H H' ∧ H' ls = some (.lst us) ∧ SAt H' us ss ∧ ss.length = k ∧ ∀ s ∈ ss, SForm s ∧ Small30 s)
    ⟨[], [], none, none, rfl, X3, s3, b3 _ _ lsp upd_same, .nil, rfl, fun s h => by cases h⟩ (fun k σ H' hk hP => ?_) (fun σ H' hP => ?_)⟩
  · obtain ⟨us, ss, y4, y5, rfl, X, sm, hls, hss, hlen, hform⟩ := hP
    have lus := hss.len
    have kb : k ≤ 40 := by omega
    refine ⟨_, rfl, _, rfl, _, rfl, p, a, ls, ns, us, ss, Mo, rfl, X, seqO hS hp sm, hls, hss, by omega, M0, Int.lt_of_lt_of_le M1 (by decide +kernel), fun H5 t st X5 b5 et nw => ?_⟩
    have hls5 := b5 _ _ lsp hls
    have sm5 := same_but sm b5 hp
    have hss5 := hss.but X b5
    have tp : t ≠ p := fun z => by
      obtain ⟨_, _, _, _, e2, _⟩ := X5
      rw [z, e2] at et; cases et
    have sf : SForm st := nw.form
    have s30 : Small30 st := small30_new nw M1 (by omega)
    refine ⟨_, rfl, p, a, ns, _, rfl, X5, seqO hS hp sm5, by decide, lgN _ (by decide), fun d6 H6 d60 d61 X6 b6 => ⟨rfl, _, rfl, ite2 (fun _ => ?J1) (fun _ => ?J2)⟩⟩
    case' J1 =>
      have sm6 := same_but sm5 b6 hp
      have et6 := b6 _ _ tp et
      have hls6 := b6 _ _ lsp hls5
      have hss6 := hss5.but X5 b6
      have lst : (stV st).length = st.ns.length + 1 := by simp [stV]
      obtain ⟨lw, l3, l2⟩ := form_len sf
      have ecut : (((stV st).length : Nat) : Int) - 1 = ((st.ns.length : Nat) : Int) := by omega
      refine ⟨_, rfl, _, rfl, t, _, rfl, .inr (SqT.of et6), _, _, rfl, rfl, _, rfl, t, _, rfl, SqT.of et6, ?_, fun c nc => ?_⟩
      · rw [ecut, HT.sIx_none, HT.sIx_nat]
        intro z
        have := z.2
        omega
      rw [ecut, cut_to2 (stV st) st.ns.length (by omega)]
      have Sc := same_new nc (.tup ((stV st).take st.ns.length))
      refine ⟨_, rfl, _, rfl, _, _, rfl, rfl, .inl ⟨by decide, by decide⟩, _, _, rfl, rfl, p, a, ns, _, rfl, X6.same Sc, seqO hS hp (sm6.trans Sc), by omega, lgN _ (by omega), fun d7 H7 d70 d71 X7 b7 => ?_⟩
      refine ⟨_, rfl, _, _, rfl, rfl, (by show 1 ≤ sizeLine; decide), fun c2 nc2 => ?_⟩
      have Sc2 := same_new nc2 (.tup [V.int (d7 - Mo)])
      have cp : c ≠ p := X6.ne nc
      refine ⟨c, c2, _, _, rfl, rfl, SqT.of (Sc2 _ _ (b7 _ _ cp upd_same)), SqT.of upd_same, ?_, ?_, (fun z => by cases z), fun _ tF ntF => ?_⟩
      · intro z
        have e := congrArg List.length z
        rw [List.length_take, lst, List.length_nil] at e
        omega
      · rw [List.length_take, lst, List.length_singleton, sizeLine_eq]; omega
      obtain ⟨stF, hstF⟩ : ∃ stF : Stp, stF = ⟨st.w, st.ns.take (st.ns.length - 1) ++ [d7 - Mo]⟩ := ⟨_, rfl⟩
      have eV : (stV st).take st.ns.length ++ [V.int (d7 - Mo)] = stV stF := by
        obtain ⟨m, em⟩ : ∃ m, st.ns.length = m + 1 := ⟨st.ns.length - 1, by omega⟩
        rw [hstF, em]
        show (V.str st.w :: (st.ns.map V.int)).take (m + 1) ++ _ = V.str st.w :: (st.ns.take (m + 1 - 1) ++ [d7 - Mo]).map V.int
        rw [List.take_succ_cons, List.map_append, Nat.add_sub_cancel, List.map_take]; rfl
      have sfF : SForm stF := by
        have el : (st.ns.take (st.ns.length - 1) ++ [d7 - Mo]).length = st.ns.length := by rw [List.length_append, List.length_take, List.length_singleton]; omega
        rw [hstF]
        rcases sf with ⟨e, l⟩ | ⟨e, l⟩ | ⟨e, l⟩ | ⟨e, l⟩
        · exact .inl ⟨e, el.trans l⟩
        · exact .inr (.inl ⟨e, el.trans l⟩)
        · exact .inr (.inr (.inl ⟨e, el.trans l⟩))
        · exact .inr (.inr (.inr ⟨e, el.trans l⟩))
      have s30F : Small30 stF := by
        rw [hstF]
        intro n hn
        rcases List.mem_append.mp hn with h | h
        · exact s30 n (List.mem_of_mem_take h)
        · rw [List.mem_singleton.mp h]
          have e : (10 ^ 30 : Nat) = 1000000000000000000000000000000 := by decide +kernel
          rw [e]; omega
      have U7 := Sc2.trans (same_new ntF (.tup ((stV st).take st.ns.length ++ [V.int (d7 - Mo)])))
      have etF : (upd (upd H7 c2 (.tup [V.int (d7 - Mo)])) tF (.tup ((stV st).take st.ns.length ++ [V.int (d7 - Mo)]))) tF = some (.tup (stV stF)) := by rw [upd_same, eV]
      have XF := X7.same U7
      have smF := (same_but (sm6.trans Sc) b7 hp).trans U7
      have hlsF := U7 _ _ (b7 _ _ lsp (Sc _ _ hls6))
      have hssF := ((hss6.same Sc).but (X6.same Sc) b7).same U7
      generalize (upd (upd H7 c2 (.tup [V.int (d7 - Mo)])) tF (.tup ((stV st).take st.ns.length ++ [V.int (d7 - Mo)]))) = HF at etF XF smF hlsF hssF
    case' J2 =>
      obtain ⟨tF, htF⟩ : ∃ tF, tF = t := ⟨_, rfl⟩
      obtain ⟨stF, hstF⟩ : ∃ stF, stF = st := ⟨_, rfl⟩
      obtain ⟨HF, hHF⟩ : ∃ HF, HF = H6 := ⟨_, rfl⟩
      rw [← htF, ← hHF]
      have sfF : SForm stF := by rw [hstF]; exact sf
      have s30F : Small30 stF := by rw [hstF]; exact s30
      have etF : HF tF = some (.tup (stV stF)) := by rw [hHF, htF, hstF]; exact b6 _ _ tp et
      have XF : StX HF p a ns := by rw [hHF]; exact X6
      have smF : Same H HF := by rw [hHF]; exact same_but sm5 b6 hp
      have hlsF : HF ls = some (.lst us) := by rw [hHF]; exact b6 _ _ lsp hls5
      have hssF : SAt HF us ss := by rw [hHF]; exact hss5.but X5 b6
    all_goals
      refine ⟨_, rfl, .inl ⟨rfl, _, .inl (.inl hlsF)⟩, _, rfl, ls, _, _, rfl, rfl, hlsF, small1000 (by omega), us ++ [.ref tF], ss ++ [stF], _, _, rfl, XF.but (upd_ne (Ne.symm lsp)), same_put smF lsH, upd_same, (hssF.append (.cons etF .nil)).put hlsF, by rw [List.length_append, List.length_singleton, hlen], fun z hz => ?_⟩
      rcases List.mem_append.mp hz with hz | hz
      · exact hform z hz
      · rw [List.mem_singleton.mp hz]; exact ⟨sfF, s30F⟩
  obtain ⟨us0, ss0, y4, y5, rfl, X6, s6, hls6, hss6, hlen6, hform6⟩ := hP
  have lus0 := hss6.len
  have l40 : ss0.length ≤ 40 := by omega
  refine ⟨_, rfl, p, a, ns, _, rfl, X6, seqO hS hp s6, by decide, lgN _ (by decide), fun d2 H7 d20 d21 X7 b7 => ⟨rfl, _, rfl, ite2 (fun _ => ?J3) (fun _ => ?J4)⟩⟩
  case' J3 =>
    have s7 := same_but s6 b7 hp
    have hls7 := b7 _ _ lsp hls6
    have hss7 := hss6.but X6 b7
    refine ⟨_, rfl, _, rfl, (by show 3 ≤ sizeLine; decide), fun t1 n1 => ⟨(by show 3 ≤ sizeLine; decide), fun t2 n2 => ⟨(by show 4 ≤ sizeLine; decide), fun t3 n3 => ⟨(by show 3 ≤ sizeLine; decide), fun q1 m1 => ?_⟩⟩⟩⟩
    have T1 := same_new n1 (.tup [V.str "point", .int 5, .int (-7)])
    have T2 := same_new n2 (.tup [V.str "line", .int 0, .int 1])
    have T3 := same_new n3 (.tup [V.str "meet", .int 2, .int 3, .int 1])
    have T4 := same_new m1 (.lst [V.ref t1, .ref t2, .ref t3])
    have e1 := (T2.trans (T3.trans T4)) _ _ (show (upd H7 t1 (.tup [V.str "point", .int 5, .int (-7)])) t1 = some (.tup (stV ⟨"point", [5, -7]⟩)) from upd_same)
    have e2 := (T3.trans T4) _ _ (show (upd _ t2 (.tup [V.str "line", .int 0, .int 1])) t2 = some (.tup (stV ⟨"line", [0, 1]⟩)) from upd_same)
    have e3 := T4 _ _ (show (upd _ t3 (.tup [V.str "meet", .int 2, .int 3, .int 1])) t3 = some (.tup (stV ⟨"meet", [2, 3, 1]⟩)) from upd_same)
    have T14 := T1.trans (T2.trans (T3.trans T4))
    have a3 : SAt _ [V.ref t1, .ref t2, .ref t3] three := .cons e1 (.cons e2 (.cons e3 .nil))
    have q1p : q1 ≠ p := (X7.same (T1.trans (T2.trans T3))).ne m1
    refine ⟨_, rfl, p, a, ns, _, rfl, X7.same T14, seqO hS hp (s7.trans T14), by decide, lgN _ (by decide), fun d8 H8 d80 d81 X8 b8 => ⟨_, _, rfl, rfl, ?_⟩⟩
    have hq8 := b8 _ _ q1p (show (upd _ q1 (.lst [V.ref t1, .ref t2, .ref t3])) q1 = some _ from upd_same)
    refine ⟨q1, _, _, rfl, rfl, hq8, by omega, by omega, smL _ (by show 3 * (100 + d8).toNat ≤ 1000; omega), fun q2 n2' => ?_⟩
    have T5 := same_new n2' (.lst (List.replicate (100 + d8).toNat [V.ref t1, .ref t2, .ref t3]).flatten)
    have hls8 := T5 _ _ (b8 _ _ lsp (T14 _ _ hls7))
    have lf : (List.replicate (100 + d8).toNat [V.ref t1, .ref t2, .ref t3]).flatten.length = (100 + d8).toNat * 3 := flat_len _ _
    refine ⟨ls, q2, _, _, rfl, rfl, hls8, upd_same, smL _ (by rw [lf]; omega), fun lF nlF => ?_⟩
    have T6 := same_new nlF (.lst (us0 ++ (List.replicate (100 + d8).toNat [V.ref t1, .ref t2, .ref t3]).flatten))
    have T56 := T5.trans T6
    obtain ⟨usF, husF⟩ : ∃ usF, usF = us0 ++ (List.replicate (100 + d8).toNat [V.ref t1, .ref t2, .ref t3]).flatten := ⟨_, rfl⟩
    obtain ⟨ssF, hssFe⟩ : ∃ ssF, ssF = ss0 ++ (List.replicate (100 + d8).toNat three).flatten := ⟨_, rfl⟩
    have hlF : (upd (upd H8 q2 (.lst (List.replicate (100 + d8).toNat [V.ref t1, .ref t2, .ref t3]).flatten)) lF (.lst (us0 ++ (List.replicate (100 + d8).toNat [V.ref t1, .ref t2, .ref t3]).flatten))) lF = some (.lst usF) := by rw [upd_same, husF]
    have aF : SAt (upd (upd H8 q2 (.lst (List.replicate (100 + d8).toNat [V.ref t1, .ref t2, .ref t3]).flatten)) lF (.lst (us0 ++ (List.replicate (100 + d8).toNat [V.ref t1, .ref t2, .ref t3]).flatten))) usF ssF := by
      rw [husF, hssFe]
      exact ((((hss7.same T14).but (X7.same T14) b8).append ((a3.but (X7.same T14) b8).flat (100 + d8).toNat))).same T56
    have lF1000 : ssF.length ≤ 1000 := by rw [hssFe, List.length_append, flat_len]; show ss0.length + (100 + d8).toNat * 3 ≤ 1000; omega
    have fF : ∀ s ∈ ssF, SForm s ∧ Small30 s := fun s hs => by
      rw [hssFe] at hs
      rcases List.mem_append.mp hs with h | h
      · exact hform6 s h
      · exact three_ok s (flat_mem h)
    have sF := (same_but (s7.trans T14) b8 hp).trans T56
    generalize (upd (upd H8 q2 (.lst (List.replicate (100 + d8).toNat [V.ref t1, .ref t2, .ref t3]).flatten)) lF (.lst (us0 ++ (List.replicate (100 + d8).toNat [V.ref t1, .ref t2, .ref t3]).flatten))) = HF at hlF aF sF
  case' J4 =>
    obtain ⟨lF, hlFe⟩ : ∃ lF, lF = ls := ⟨_, rfl⟩
    obtain ⟨usF, husF⟩ : ∃ usF, usF = us0 := ⟨_, rfl⟩
    obtain ⟨ssF, hssFe⟩ : ∃ ssF, ssF = ss0 := ⟨_, rfl⟩
    obtain ⟨HF, hHF⟩ : ∃ HF, HF = H7 := ⟨_, rfl⟩
    rw [← hlFe, ← hHF]
    have hlF : HF lF = some (.lst usF) := by rw [hHF, hlFe, husF]; exact b7 _ _ lsp hls6
    have aF : SAt HF usF ssF := by rw [hHF, husF, hssFe]; exact hss6.but X6 b7
    have lF1000 : ssF.length ≤ 1000 := by rw [hssFe]; omega
    have fF : ∀ s ∈ ssF, SForm s ∧ Small30 s := by rw [hssFe]; exact hform6
    have sF : Same H HF := by rw [hHF]; exact same_but s6 b7 hp
  all_goals
    have fS : ∀ s ∈ ssF, SForm s ∧ Small s := fun s hs => ⟨(fF s hs).1, fun n hn => small_log ((fF s hs).2 n hn)⟩
    refine ⟨_, rfl, lF, _, rfl, .inl ⟨SqL.of hlF, fun td ntd => ?_⟩⟩
    have Y1 := same_new ntd (.tup usF)
    have htd : (upd HF td (.tup usF)) td = some (.tup usF) := upd_same
    have hlF1 := Y1 _ _ hlF
    have aF1 := aF.same Y1
    generalize (upd HF td (.tup usF)) = HG at Y1 htd hlF1 aF1
    refine ⟨_, rfl, lF, usF, ssF, rfl, hlF1, aF1, lF1000, fS, fun HI smI => ?_⟩
    refine ⟨_, rfl, td, usF, ssF, rfl, smI _ _ htd, aF1.same smI, lF1000, fS, fun HJ smJ => ?_⟩
    have htdJ := (smI.trans smJ) _ _ htd
    have aFJ := aF1.same (smI.trans smJ)
    have lfit := lines_fit fS lF1000
    have xl : (Txt.join "\n" (ssF.map lineOf)).length ≤ 10000000 := by
      have := sep_line.join_len (ssF.map lineOf)
      omega
    obtain ⟨sh1, sh2, sh3, sh4⟩ := draw_show fF lF1000
    have fo : ∀ s ∈ ssF, SForm s := fun s hs => (fF s hs).1
    refine ⟨_, rfl, _, rfl, xl, fun e Ha p0 sa hp0 => ?_, fun e hb Ha p0 us2 ss2 sa hp0 hss2 hm hf => ?_, fun e k hb Ha d sa hd => ?_⟩
    · have z := text_empty fo e
      obtain ⟨us2, hus2⟩ : ∃ us2 : List V, us2 = [] := ⟨_, rfl⟩
      rw [← hus2] at hp0
      have a2 : SAt Ha us2 ssF := by rw [hus2, z]; exact .nil
      have htA := sa _ _ htdJ
      have aA := aFJ.same sa
      refine ⟨_, rfl, _, _, _, _, _, rfl, .ty "str", .base (.str _), kit_ty (show kitB "str" "str" = some true by decide +kernel), _, rfl, iteT' rfl ?_⟩
      refine ⟨_, rfl, _, rfl, rfl, _, rfl, iteT' (decide_eq_true rfl) ?_⟩
      refine ⟨_, rfl, _, _, _, _, _, rfl, .ty "tuple", .base (.tup hp0), kit_ty (show kitB "tuple" "tuple" = some true by decide +kernel), _, rfl, iteT' rfl ?_⟩
      refine ⟨_, rfl, p0, _, rfl, .tup (SqT.of hp0) (dp_st a2), sh1, sh2, sh3, sh4, _, rfl, td, _, rfl, .tup (SqT.of htA) (dp_st aA), sh1, sh2, sh3, sh4, rfl, ?_⟩
      exact congrArg V.bl (decide_eq_true rfl)
    · have hne : ssF ≠ [] := fun z => e (by rw [z]; decide +kernel)
      rw [text_split fo hne] at hm
      have es := lines_inj (fun s hs => (hf s hs).1) fo hm
      have a2 : SAt Ha us2 ssF := by rw [← es]; exact hss2
      have htA := sa _ _ htdJ
      have aA := aFJ.same sa
      refine ⟨_, rfl, _, _, _, _, _, rfl, .ty "str", .base (.str _), kit_ty (show kitB "str" "str" = some true by decide +kernel), _, rfl, iteT' rfl ?_⟩
      refine ⟨_, rfl, _, rfl, rfl, _, rfl, iteT' (decide_eq_true rfl) ?_⟩
      refine ⟨_, rfl, _, _, _, _, _, rfl, .ty "tuple", .base (.tup hp0), kit_ty (show kitB "tuple" "tuple" = some true by decide +kernel), _, rfl, iteT' rfl ?_⟩
      refine ⟨_, rfl, p0, _, rfl, .tup (SqT.of hp0) (dp_st a2), sh1, sh2, sh3, sh4, _, rfl, td, _, rfl, .tup (SqT.of htA) (dp_st aA), sh1, sh2, sh3, sh4, rfl, ?_⟩
      exact congrArg V.bl (decide_eq_true rfl)
    · have hne : ssF ≠ [] := fun z => e (by rw [z]; decide +kernel)
      rw [text_split fo hne, text_ok fF] at hb
      cases hb
end
end KH

namespace KH
open PySem PySem.Spec PyProof.Rows L2 KG
set_option maxHeartbeats 4000000 in
theorem all_mk {l : PySem.W.OpenLaw} {w : World} {K : PySem.W.Frag} {h : Heap} {mg : Str → Option Value} {fa aD1 f1 f2 f3 f4 f5 f6 f7 f8 f9 eC1 eI1 eW1 eN1 : Addr} (X : K.In h) (G : h.Ns mainGlobals mg) (hfa : mg "law" = some (.ref fa))
    {od1 an1 od2 an2 od3 an3 od4 an4 od5 an5 od6 an6 od7 an7 od8 an8 od9 an9 od10 an10 : Option Addr} {sl1 sl2 sl3 sl4 sl5 sl6 sl7 sl8 sl9 sl10 : Array (Option Value)} {oc1 kV1 dc1 pm1 cd1 ct1 oc2 kV2 dc2 pm2 cd2 ct2 oc3 kV3 dc3 pm3 cd3 ct3 oc4 kV4 dc4 pm4 cd4 ct4 oc5 kV5 dc5 pm5 cd5 ct5 oc6 kV6 dc6 pm6 cd6 ct6 oc7 kV7 dc7 pm7 cd7 ct7 oc8 kV8 dc8 pm8 cd8 ct8 oc9 kV9 dc9 pm9 cd9 ct9 oc10 kV10 dc10 pm10 cd10 ct10 : Value}
    {nm1 q1 : Str} {bs1 sub1 : List Value} {sn1 : List Str} {ab1 : Bool} {col1 : Option Bool} {dd1 : Option Addr} {m0_1 m1_1 m2_1 m3_1 m5_1 : Option Value}
    {tI1 : Tok}
    {nD1 : Nat} {kD1_0 vD1_0 kD1_1 vD1_1 kD1_2 vD1_2 kD1_3 vD1_3 : Tok}
    (a1 : PySem.W.nsIn K mainGlobals "integer_of" = some (some (.ref f1))) (l1 : K.lookup f1 = some ⟨oc1, od1, .func (PySem.W.fnOf "integer_of" "integer_of" (defArgs sinteger_of) (defBody sinteger_of) (defScope sinteger_of) .none kV1 dc1 pm1 an1 cd1 ct1), sl1⟩) (c1 : PySem.W.codeIn K cd1 "integer_of" = true) (k1 : PySem.W.keepIn K (.ref f1) = true)
    (a2 : PySem.W.nsIn K mainGlobals "_read_step" = some (some (.ref f2))) (l2 : K.lookup f2 = some ⟨oc2, od2, .func (PySem.W.fnOf "_read_step" "_read_step" (defArgs s_read_step) (defBody s_read_step) (defScope s_read_step) .none kV2 dc2 pm2 an2 cd2 ct2), sl2⟩) (c2 : PySem.W.codeIn K cd2 "_read_step" = true) (k2 : PySem.W.keepIn K (.ref f2) = true)
    (a3 : PySem.W.nsIn K mainGlobals "read_drawing" = some (some (.ref f3))) (l3 : K.lookup f3 = some ⟨oc3, od3, .func (PySem.W.fnOf "read_drawing" "read_drawing" (defArgs sread_drawing) (defBody sread_drawing) (defScope sread_drawing) .none kV3 dc3 pm3 an3 cd3 ct3), sl3⟩) (c3 : PySem.W.codeIn K cd3 "read_drawing" = true) (k3 : PySem.W.keepIn K (.ref f3) = true)
    (a4 : PySem.W.nsIn K mainGlobals "write_drawing" = some (some (.ref f4))) (l4 : K.lookup f4 = some ⟨oc4, od4, .func (PySem.W.fnOf "write_drawing" "write_drawing" (defArgs swrite_drawing) (defBody swrite_drawing) (defScope swrite_drawing) .none kV4 dc4 pm4 an4 cd4 ct4), sl4⟩) (c4 : PySem.W.codeIn K cd4 "write_drawing" = true) (k4 : PySem.W.keepIn K (.ref f4) = true)
    (a5 : PySem.W.nsIn K mainGlobals "_law_state" = some (some (.ref f5))) (l5 : K.lookup f5 = some ⟨oc5, od5, .func (PySem.W.fnOf "_law_state" "_law_state" (defArgs s_law_state) (defBody s_law_state) (defScope s_law_state) .none kV5 dc5 pm5 an5 cd5 ct5), sl5⟩) (c5 : PySem.W.codeIn K cd5 "_law_state" = true) (k5 : PySem.W.keepIn K (.ref f5) = true)
    (a6 : PySem.W.nsIn K mainGlobals "_law_take" = some (some (.ref f6))) (l6 : K.lookup f6 = some ⟨oc6, od6, .func (PySem.W.fnOf "_law_take" "_law_take" (defArgs s_law_take) (defBody s_law_take) (defScope s_law_take) .none kV6 dc6 pm6 an6 cd6 ct6), sl6⟩) (c6 : PySem.W.codeIn K cd6 "_law_take" = true) (k6 : PySem.W.keepIn K (.ref f6) = true)
    (a7 : PySem.W.nsIn K mainGlobals "_law_drawn_step" = some (some (.ref f7))) (l7 : K.lookup f7 = some ⟨oc7, od7, .func (PySem.W.fnOf "_law_drawn_step" "_law_drawn_step" (defArgs s_law_drawn_step) (defBody s_law_drawn_step) (defScope s_law_drawn_step) .none kV7 dc7 pm7 an7 cd7 ct7), sl7⟩) (c7 : PySem.W.codeIn K cd7 "_law_drawn_step" = true) (k7 : PySem.W.keepIn K (.ref f7) = true)
    (a8 : PySem.W.nsIn K mainGlobals "_law_text" = some (some (.ref f8))) (l8 : K.lookup f8 = some ⟨oc8, od8, .func (PySem.W.fnOf "_law_text" "_law_text" (defArgs s_law_text) (defBody s_law_text) (defScope s_law_text) .none kV8 dc8 pm8 an8 cd8 ct8), sl8⟩) (c8 : PySem.W.codeIn K cd8 "_law_text" = true) (k8 : PySem.W.keepIn K (.ref f8) = true)
    (a9 : PySem.W.nsIn K mainGlobals "law" = some (some (.ref f9))) (l9 : K.lookup f9 = some ⟨oc9, od9, .func (PySem.W.fnOf "law" "law" (defArgs slaw) (defBody slaw) (defScope slaw) .none kV9 dc9 pm9 an9 cd9 ct9), sl9⟩) (c9 : PySem.W.codeIn K cd9 "law" = true) (k9 : PySem.W.keepIn K (.ref f9) = true)
    (x1_1 : PySem.W.nsIn K mainGlobals "BadText" = some (some (.ref eC1))) (x1_2 : PySem.W.nsIn K mainGlobals "WorkError" = some (some (.ref eW1)))
    (x1_3 : K.lookup eC1 = some (excClassObj nm1 q1 eC1 eN1 bs1 [.ref eW1, .type "ValueError", .type "Exception", .type "BaseException", .type "object"] true sn1 sub1 ab1 col1 dd1 m0_1 m1_1 m2_1 m3_1 m5_1 "ValueError.__new__"))
    (x1_4 : PySem.W.findIn K (.ref eC1) "__setattr__" = some (some (.builtin "object.__setattr__"))) (x1_5 : PySem.W.findIn K (.ref eC1) "__getattribute__" = some (some (.builtin "BaseException.__getattribute__"))) (x1_6 : PySem.W.findIn K (.ref eC1) "__getattr__" = some none) (x1_7 : PySem.W.findIn K (.ref eC1) "place" = some none) (x1_8 : PySem.W.findIn K (.ref eC1) "__init__" = some (some (.ref eI1))) (x1_9 : PySem.W.typeIn K (.ref eI1) = some (.type "function")) (x1_10 : PySem.W.keepIn K (.ref eC1) = true) (x1_11 : PySem.W.subIn K (.ref eC1) (.type "BaseException") = some true) (x1_12 : PySem.W.typeIn K (.ref eC1) = some (.type "type")) (x1_13 : PySem.W.hasDictIn K eC1 = true) (x1_14 : PySem.W.isClsIn K eC1 = true) (x1_15 : PySem.W.subIn K (.ref eC1) (.ref eC1) = some true) (x1_16 : PySem.W.subIn K (.ref eC1) (.ref eW1) = some true) (x1_17 : PySem.W.typeIn K (.ref eW1) = some (.type "type")) (x1_18 : PySem.W.isClsIn K eW1 = true) (x1_19 : PySem.W.subIn K (.ref eC1) (.type "ValueError") = some true) (x1_20 : PySem.W.findIn K (.ref eC1) "__class__" = some (some (.builtin "object.__class__"))) (x1_21 : PySem.W.specialIn K (.builtin "object.__class__") "__get__" = some (some (.builtin "getset_descriptor.__get__"))) (x1_22 : PySem.W.takesIn K (.builtin "object.__class__") = some true) (x1_23 : PySem.W.mroIn K eC1 (.type "object") = some true)
    (l10 : K.lookup eI1 = some ⟨oc10, od10, .func (PySem.W.fnOf "__init__" "BadText.__init__" (defArgs s_bt) (defBody s_bt) (defScope s_bt) .none kV10 dc10 pm10 an10 cd10 ct10), sl10⟩) (c10 : PySem.W.codeIn K cd10 "BadText.__init__" = true) (k10 : PySem.W.keepIn K (.ref eI1) = true)
    (z1 : PySem.W.nsIn K mainGlobals "ValueError" = some none)
    (z2 : PySem.W.nsIn K mainGlobals "int" = some none)
    (z3 : PySem.W.nsIn K mainGlobals "enumerate" = some none)
    (z4 : PySem.W.nsIn K mainGlobals "tuple" = some none)
    (z5 : PySem.W.nsIn K mainGlobals "range" = some none)
    (z6 : PySem.W.nsIn K mainGlobals "len" = some none)
    (z7 : PySem.W.nsIn K mainGlobals "abs" = some none)
    (z8 : PySem.W.nsIn K mainGlobals "isinstance" = some none)
    (z9 : PySem.W.nsIn K mainGlobals "str" = some none)
    (z10 : PySem.W.nsIn K mainGlobals "repr" = some none)
    (i1 : PySem.W.nsIn K mainGlobals "MOST_DIGITS" = some (some (.int 30 tI1)))
    (d1_1 : PySem.W.nsIn K mainGlobals "FORMS" = some (some (.ref aD1))) (d1_2 : K.lookup aD1 = some ⟨.type "dict", none, .dict #[⟨PyData.keyHash w.params "point", .str "point" kD1_0, .int 2 vD1_0⟩, ⟨PyData.keyHash w.params "line", .str "line" kD1_1, .int 2 vD1_1⟩, ⟨PyData.keyHash w.params "circle", .str "circle" kD1_2, .int 3 vD1_2⟩, ⟨PyData.keyHash w.params "meet", .str "meet" kD1_3, .int 3 vD1_3⟩] nD1, #[]⟩) (d1_3 : (aD1 == sysModules) = false)
    : ∀ (s1 : Shared) (a0 : Addr) (ns0 : List Int), ns0.length ≤ 63 → ∀ (base : Heap) (H : Hp), K.In base → base.Ns mainGlobals mg → Env0 l.prog w K mg base callerA [] s1 H → SqL K H a0 (ns0.map V.int) → codeAny (model l.prog w) callerA (.call (.ref fa) ⟨[.ref a0], []⟩) (CR CX0 [] l.prog w H s1 (fun v _ => v = .bl true) fun _ _ _ => False) s1 := by
  have e := hfa.symm.trans (PySem.W.mg_of X G a9)
  cases e
  have F1 := fun_mk (st := sinteger_of) l1 c1 k1
  have F2 := fun_mk (st := s_read_step) l2 c2 k2
  have F3 := fun_mk (st := sread_drawing) l3 c3 k3
  have F4 := fun_mk (st := swrite_drawing) l4 c4 k4
  have F5 := fun_mk (st := s_law_state) l5 c5 k5
  have F6 := fun_mk (st := s_law_take) l6 c6 k6
  have F7 := fun_mk (st := s_law_drawn_step) l7 c7 k7
  have F8 := fun_mk (st := s_law_text) l8 c8 k8
  have F9 := fun_mk (st := slaw) l9 c9 k9
  have F10 := fun_mk (st := s_bt) l10 c10 k10
  have b1 := F1.binds (ps := ["word"]) fun _ _ _ _ _ _ us hl => match us, hl with | [_], _ => rfl
  have b2 := F2.binds (ps := ["line"]) fun _ _ _ _ _ _ us hl => match us, hl with | [_], _ => rfl
  have b3 := F3.binds (ps := ["text"]) fun _ _ _ _ _ _ us hl => match us, hl with | [_], _ => rfl
  have b4 := F4.binds (ps := ["drawing"]) fun _ _ _ _ _ _ us hl => match us, hl with | [_], _ => rfl
  have b5 := F5.binds (ps := ["script"]) fun _ _ _ _ _ _ us hl => match us, hl with | [_], _ => rfl
  have b6 := F6.binds (ps := ["state", "many"]) fun _ _ _ _ _ _ us hl => match us, hl with | [_, _], _ => rfl
  have b7 := F7.binds (ps := ["state", "steps", "most"]) fun _ _ _ _ _ _ us hl => match us, hl with | [_, _, _], _ => rfl
  have b8 := F8.binds (ps := ["steps"]) fun _ _ _ _ _ _ us hl => match us, hl with | [_], _ => rfl
  have b10 := F10.binds (ps := ["self", "place"]) fun _ _ _ _ _ _ us hl => match us, hl with | [_, _], _ => rfl
  have T1 := own_mk X G x1_1 x1_3 x1_4 x1_5 x1_6 x1_7 x1_8 x1_9 x1_10 x1_11 x1_12 x1_13 x1_14 x1_15 x1_16 x1_17 x1_18 x1_19 x1_20 x1_21 x1_22 x1_23
  have W1 := PySem.W.mg_of X G x1_2
  have gI1 := PySem.W.mg_of X G i1
  have gD1 := PySem.W.mg_of X G d1_1
  have sD1 : KDi K w aD1 forms := ⟨_, _, d1_2, (.cons (.cons (.cons (.cons .nil)))), d1_3⟩
  have M : Names mg := { ValueError := PySem.W.mg_none_of X G z1, int := PySem.W.mg_none_of X G z2, enumerate := PySem.W.mg_none_of X G z3, tuple := PySem.W.mg_none_of X G z4, range := PySem.W.mg_none_of X G z5, len := PySem.W.mg_none_of X G z6, abs := PySem.W.mg_none_of X G z7, isinstance := PySem.W.mg_none_of X G z8, str := PySem.W.mg_none_of X G z9, repr := PySem.W.mg_none_of X G z10 }
  intro s1 a0 ns0 hl0 base H kb gb e0 sq0
  have C_law_state_7 : Cal l.prog w K mg base 7 "_law_state" ["script"] (sp_law_state K) := ⟨f5, _, ok_law_state F5 M, b5, PySem.W.mg_of X G a5, k5⟩
  have C_law_take_7 : Cal l.prog w K mg base 7 "_law_take" ["state", "many"] (sp_law_take K) := ⟨f6, _, ok_law_take F6 M, b6, PySem.W.mg_of X G a6, k6⟩
  have C_law_take_6 : Cal l.prog w K mg base 6 "_law_take" ["state", "many"] (sp_law_take K) := ⟨f6, _, ok_law_take F6 M, b6, PySem.W.mg_of X G a6, k6⟩
  have C_law_drawn_step_7 : Cal l.prog w K mg base 7 "_law_drawn_step" ["state", "steps", "most"] (sp_law_drawn_step K) := ⟨f7, _, ok_law_drawn_step F7 M C_law_take_6, b7, PySem.W.mg_of X G a7, k7⟩
  have C_law_text_7 : Cal l.prog w K mg base 7 "_law_text" ["steps"] (sp_law_text) := ⟨f8, _, ok_law_text F8 M, b8, PySem.W.mg_of X G a8, k8⟩
  have Cwrite_drawing_7 : Cal l.prog w K mg base 7 "write_drawing" ["drawing"] (sp_write_drawing K) := ⟨f4, _, ok_write_drawing F4 M, b4, PySem.W.mg_of X G a4, k4⟩
  have Cinteger_of_5 : Cal l.prog w K mg base 5 "integer_of" ["word"] (sp_integer_of) := ⟨f1, _, ok_integer_of F1 M gI1, b1, PySem.W.mg_of X G a1, k1⟩
  have C_read_step_6 : Cal l.prog w K mg base 6 "_read_step" ["line"] (sp_read_step) := ⟨f2, _, ok_read_step F2 M gD1 sD1 Cinteger_of_5, b2, PySem.W.mg_of X G a2, k2⟩
  have Cread_drawing_7 : Cal l.prog w K mg base 7 "read_drawing" ["text"] (sp_rdq eC1) := ⟨f3, _, quiet (ok_read_drawing F3 M T1 (ok_bt (k := 4) F10) b10 C_read_step_6), b3, PySem.W.mg_of X G a3, k3⟩
  exact oklaw F9 M C_law_state_7 C_law_take_7 C_law_drawn_step_7 C_law_text_7 Cwrite_drawing_7 Cread_drawing_7 (show Room (7 + 1) callerA from ⟨rfl, by decide, by decide⟩) e0 (.of_eq rfl) sq0 hl0
end KH
open PySem PySem.W PyProof.Rows
set_option maxRecDepth 100000 in
set_option maxHeartbeats 0 in
theorem PySem.Challenge.cw_compasswork_k19_texts_of_drawings_holds : PySem.Challenge.rw_compasswork_k19_texts_of_drawings.Holds := by
  w_on; o_law; k_head; (case hw => w_witness2)
  k_fill
  refine KG.walk_here (l := PySem.Challenge.rw_compasswork_k19_texts_of_drawings) (most := 63) rfl (by decide) rfl (fun w h Y => PySem.W.kIn_of Y) ?F
  case F =>
    intro w mg fa h KX G hmg
    refine' KH.all_mk KX G hmg ?a1 ?l1 ?c1 ?k1 ?a2 ?l2 ?c2 ?k2 ?a3 ?l3 ?c3 ?k3 ?a4 ?l4 ?c4 ?k4 ?a5 ?l5 ?c5 ?k5 ?a6 ?l6 ?c6 ?k6 ?a7 ?l7 ?c7 ?k7 ?a8 ?l8 ?c8 ?k8 ?a9 ?l9 ?c9 ?k9 ?x1_1 ?x1_2 ?x1_3 ?x1_4 ?x1_5 ?x1_6 ?x1_7 ?x1_8 ?x1_9 ?x1_10 ?x1_11 ?x1_12 ?x1_13 ?x1_14 ?x1_15 ?x1_16 ?x1_17 ?x1_18 ?x1_19 ?x1_20 ?x1_21 ?x1_22 ?x1_23 ?l10 ?c10 ?k10 ?z1 ?z2 ?z3 ?z4 ?z5 ?z6 ?z7 ?z8 ?z9 ?z10 ?i1 ?d1_1 ?d1_2 ?d1_3
    (case a1 => first | k_is | rfl)
    (case l1 => first | k_is | rfl)
    (case c1 => first | k_is | rfl)
    (case k1 => first | k_is | rfl)
    (case a2 => first | k_is | rfl)
    (case l2 => first | k_is | rfl)
    (case c2 => first | k_is | rfl)
    (case k2 => first | k_is | rfl)
    (case a3 => first | k_is | rfl)
    (case l3 => first | k_is | rfl)
    (case c3 => first | k_is | rfl)
    (case k3 => first | k_is | rfl)
    (case a4 => first | k_is | rfl)
    (case l4 => first | k_is | rfl)
    (case c4 => first | k_is | rfl)
    (case k4 => first | k_is | rfl)
    (case a5 => first | k_is | rfl)
    (case l5 => first | k_is | rfl)
    (case c5 => first | k_is | rfl)
    (case k5 => first | k_is | rfl)
    (case a6 => first | k_is | rfl)
    (case l6 => first | k_is | rfl)
    (case c6 => first | k_is | rfl)
    (case k6 => first | k_is | rfl)
    (case a7 => first | k_is | rfl)
    (case l7 => first | k_is | rfl)
    (case c7 => first | k_is | rfl)
    (case k7 => first | k_is | rfl)
    (case a8 => first | k_is | rfl)
    (case l8 => first | k_is | rfl)
    (case c8 => first | k_is | rfl)
    (case k8 => first | k_is | rfl)
    (case a9 => first | k_is | rfl)
    (case l9 => first | k_is | rfl)
    (case c9 => first | k_is | rfl)
    (case k9 => first | k_is | rfl)
    (case x1_1 => first | k_is | rfl)
    (case x1_2 => first | k_is | rfl)
    (case x1_3 => first | k_is | rfl)
    (case x1_4 => first | k_is | rfl)
    (case x1_5 => first | k_is | rfl)
    (case x1_6 => first | k_is | rfl)
    (case x1_7 => first | k_is | rfl)
    (case x1_8 => first | k_is | rfl)
    (case x1_9 => first | k_is | rfl)
    (case x1_10 => first | k_is | rfl)
    (case x1_11 => first | k_is | rfl)
    (case x1_12 => first | k_is | rfl)
    (case x1_13 => first | k_is | rfl)
    (case x1_14 => first | k_is | rfl)
    (case x1_15 => first | k_is | rfl)
    (case x1_16 => first | k_is | rfl)
    (case x1_17 => first | k_is | rfl)
    (case x1_18 => first | k_is | rfl)
    (case x1_19 => first | k_is | rfl)
    (case x1_20 => first | k_is | rfl)
    (case x1_21 => first | k_is | rfl)
    (case x1_22 => first | k_is | rfl)
    (case x1_23 => first | k_is | rfl)
    (case l10 => first | k_is | rfl)
    (case c10 => first | k_is | rfl)
    (case k10 => first | k_is | rfl)
    (case z1 => first | k_is | rfl)
    (case z2 => first | k_is | rfl)
    (case z3 => first | k_is | rfl)
    (case z4 => first | k_is | rfl)
    (case z5 => first | k_is | rfl)
    (case z6 => first | k_is | rfl)
    (case z7 => first | k_is | rfl)
    (case z8 => first | k_is | rfl)
    (case z9 => first | k_is | rfl)
    (case z10 => first | k_is | rfl)
    (case i1 => first | k_is | rfl)
    (case d1_1 => first | k_is | rfl)
    (case d1_2 => first | k_is | rfl)
    (case d1_3 => first | k_is | rfl)

