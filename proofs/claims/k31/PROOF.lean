import PyProof.Rows.All
import Wide.All
import OpenK.AllK
import Wide.FinOn
import HandS.ForMost
import HandS.Wide
import HandS.Gcd
import HandS.IsInst
import HandS.TupMul
import HandS.TupAny
import HandS.Small
import KE.GoesMore
import KE.GoesEnum
import HandS.Iter
import HandS.WideBits
import HandS.Zip
import HandS.RevRange
import KE.KMathG
import HandS.Rev
import HandS.Flow
import HandS.Style
import PyProof.ConsumeWalk
import KE.KDictKeyed
import HandS.OwnEq
import KE.KOpsOwn
import HandS.Dict
import HandS.More
import HandS.List
import PyProof.AutoSeq1
import HandS.Text
import HandS.StrMore
import HandS.FStr
import KE.KExcIs
import HandS.ExcIs
import HandS.ExcInit
import HandS.ExcField
import HandS.ExcOwn
import HandS.WordsExc
import HandS.Defaults
import KE.IntTextLaws
import PyProof.Rows.RegStrFacts
import HandS.HeadHook1
import HandS.HeadHook2
import KE.KStateDown
import HandS.Ends
import HandS.Words
import HandS.Head0
import HandS.Head1
import HandS.Head2
import HandS.HeadEnd
import HandS.Head3
import HandS.TupLe
import HandS.Exc
import PySem.Challenge.RW_compasswork_k31_corners_of_polygons
set_option Elab.async false
set_option linter.all false
set_option maxRecDepth 100000
/-! what the proofs of all laws share: own rules, heaps, the state of draws, comprehensions, rows of ints -/
namespace KG
open PySem PySem.Spec PyProof.Rows L2
def co (p : List Int) (i : Nat) : Int := p.getD i 0
theorem co_ge {p : List Int} {i : Nat} (h : p.length ≤ i) : co p i = 0 := by
  simp [co, List.getD_eq_getElem?_getD, List.getElem?_eq_none h]
theorem co_mem {row : List Int} {i : Nat} (h : i < row.length) : co row i ∈ row := by simp [co, List.getD_eq_getElem?_getD, h]
/-- // by any divisor but 0 of less than 9000 bits -/
def CDivZ (_ j : Int) : Prop := j ≠ 0 ∧ j.natAbs.log2 < 9000
/-- a def that may be called -/
structure Cal (P : Program) (w : World) (K : PySem.W.Frag) (mg : Str → Option Value) (base : Heap) (k : Nat) (x : Str) (ps : List Str) (sp : Sp) where
  f : Addr
  fd : FuncData
  ok : FnOk P w K mg base CX0 k f fd ps sp
  b : Binds K fd ps []
  m : mg x = some (.ref f)
  kp : PySem.W.keepIn K (.ref f) = true
section
variable {X : Cx}
theorem op_fdivZ : OpR X (binaryOp .FloorDiv) (rI CDivZ fun i j => .int (i.fdiv j)) :=
  opI fun _ _ _ _ _ _ _ hc q => floordiv_int hc.1 q (.inl (PyProof.noPylong_of_log2 hc.2))
end
/-! ### heaps -/
theorem same_new {H : Hp} {p : Addr} (h : H p = none) (o : HO) : Same H (upd H p o) := fun b u q => by rw [upd_ne (ne_of_none q h)]; exact q
/-- all but what stands at p is as it was -/
def But (p : Addr) (H H' : Hp) : Prop := ∀ b o, b ≠ p → H b = some o → H' b = some o
theorem But.refl (p : Addr) (H : Hp) : But p H H := fun _ _ _ h => h
theorem But.trans {p : Addr} {H H1 H2 : Hp} (a : But p H H1) (b : But p H1 H2) : But p H H2 := fun c o n h => b c o n (a c o n h)
theorem But.of {p : Addr} {H H' : Hp} (s : Same H H') : But p H H' := fun b o _ h => s b o h
theorem But.put {p : Addr} (H : Hp) (o : HO) : But p H (upd H p o) := fun b u n h => by rw [upd_ne n]; exact h
theorem But.seq {K : PySem.W.Frag} {p : Addr} {H H' : Hp} {a : Addr} {xs : List V} (e : But p H H') (n : a ≠ p) (h : SqL K H a xs) : SqL K H' a xs := by
  rcases h with (h | ⟨o, h⟩) | h
  · exact .inl (.inl (e _ _ n h))
  · exact .inl (.inr ⟨o, e _ _ n h⟩)
  · exact .inr h
theorem But.seqT {K : PySem.W.Frag} {p : Addr} {H H' : Hp} {a : Addr} {xs : List V} (e : But p H H') (n : a ≠ p) (h : SqT K H a xs) : SqT K H' a xs := by
  rcases h with (h | ⟨o, h⟩) | h
  · exact .inl (.inl (e _ _ n h))
  · exact .inl (.inr ⟨o, e _ _ n h⟩)
  · exact .inr h
theorem Same.seqT {K : PySem.W.Frag} {H H' : Hp} {a : Addr} {xs : List V} (e : Same H H') (h : SqT K H a xs) : SqT K H' a xs := by
  rcases h with (h | ⟨o, h⟩) | h
  · exact .inl (.inl (e _ _ h))
  · exact .inl (.inr ⟨o, e _ _ h⟩)
  · exact .inr h
/-! ### the state that numbers are drawn from -/
def stL (a e : Addr) (r c m : Int) : List V := [.ref a, .int r, .int c, .int m, .ref e, .int 0, .int 0, .int 0]
def StOk (ns : List Int) (r c m : Int) : Prop := (m = 1 ∧ 0 < ns.length) ∨ (m = 0 ∧ 0 ≤ r ∧ 0 ≤ c)
theorem upd_self {H : Hp} {p : Addr} {o : HO} (h : H p = some o) : upd H p o = H := by
  funext b
  by_cases e : b = p
  · rw [e, upd_same, h]
  · rw [upd_ne e]
theorem same_upd {H H' : Hp} (s : Same H H') (p : Addr) (o : HO) : Same (upd H p o) (upd H' p o) := fun b u h => by
  by_cases e : b = p
  · rw [e, upd_same] at h ⊢; exact h
  · rw [upd_ne e] at h ⊢; exact s b u h
theorem but_upd {p : Addr} {H H' : Hp} (s : But p H H') (o : HO) : Same (upd H p o) (upd H' p o) := fun b u h => by
  by_cases e : b = p
  · rw [e, upd_same] at h ⊢; exact h
  · rw [upd_ne e] at h ⊢; exact s b u e h
/-- a list that is to be read whatever stands at p -/
def SqO (K : PySem.W.Frag) (H : Hp) (p a : Addr) (xs : List V) : Prop := ∀ o, SqL K (upd H p o) a xs
theorem SqO.new {K : PySem.W.Frag} {H : Hp} {p a : Addr} {xs : List V} (h : SqL K H a xs) (n : H p = none) : SqO K H p a xs := fun o => (same_new n o).seq h
theorem SqO.now {K : PySem.W.Frag} {H : Hp} {p a : Addr} {xs : List V} {o : HO} (h : SqO K H p a xs) (e : H p = some o) : SqL K H a xs := by
  have := h o
  rwa [upd_self e] at this
theorem SqO.but {K : PySem.W.Frag} {H H' : Hp} {p a : Addr} {xs : List V} (h : SqO K H p a xs) (s : But p H H') : SqO K H' p a xs := fun o => (but_upd s o).seq (h o)
def StX (H : Hp) (p a : Addr) (ns : List Int) : Prop := ∃ (e : Addr) (r c m : Int), H p = some (.lst (stL a e r c m)) ∧ StOk ns r c m
theorem StX.but {H H' : Hp} {p a : Addr} {ns : List Int} (h : StX H p a ns) (e : H' p = H p) : StX H' p a ns := by
  obtain ⟨x, r, c, m, h1, h2⟩ := h
  exact ⟨x, r, c, m, e ▸ h1, h2⟩
theorem StX.same {H H' : Hp} {p a : Addr} {ns : List Int} (h : StX H p a ns) (s : Same H H') : StX H' p a ns := by
  obtain ⟨x, r, c, m, h1, h2⟩ := h
  exact ⟨x, r, c, m, s _ _ h1, h2⟩
theorem at_n {ns : List Int} {i : Int} (h0 : 0 ≤ i) (h1 : i < ns.length) : ∃ v : Int, atI (ns.map V.int) i = some (.int v) := by
  obtain ⟨k, rfl⟩ := Int.eq_ofNat_of_zero_le h0
  have hk : k < ns.length := by omega
  exact ⟨ns[k], atI_nat (by rw [List.getElem?_map, List.getElem?_eq_getElem hk]; rfl)⟩
/-! ### comprehensions whose step leaves the objects as they are -/
section
variable {K : PySem.W.Frag} {a D : Addr} {xs : List V} {g : TG} {te : TE} {vs : List Nat} {σ : L2.St} {H1 : Hp} {Qd : Hp → Prop}
theorem grown {H : Hp} {D : Addr} {xs : List V} {G : V → V} {i : Nat} {x : V} (hx : xs[i]? = some x) (hl : xs.length ≤ 1000) : (((xs.take i).map G).length < sizeLine) ∧ ((xs.take i).map G ++ [G x] = (xs.take (i + 1)).map G) := by
  have hi : i < xs.length := (List.getElem?_eq_some_iff.mp hx).1
  refine ⟨small1000 (by rw [List.length_map, List.length_take]; omega), ?_⟩
  rw [List.take_add_one, hx, List.map_append]; rfl
theorem comp_list (G : V → V) (hx : SqL K H1 a xs) (hD : H1 D = none) (hl : xs.length ≤ 1000)
    (hs : ∀ (i : Nat) (x : V) (H : Hp) (Nx : V → Hp → Prop), xs[i]? = some x → Same H1 H → Nx (G x) H → g x (wipe σ vs) H fun σ2 H2 => wipe σ2 vs = wipe σ vs ∧ te σ2 H2 Nx)
    (hd : ∀ H, Same H1 H → H D = some (.lst (xs.map G)) → Qd H) :
    ∃ W : Nat → Nat → Hp → Prop, (∃ m, W 0 m (upd H1 D (.lst []))) ∧ ∀ i m H, W i m H →
      ((Itl K a).stop i H ∧ Qd H) ∨ ((Itl K a).go i H ∧ ∃ Nx : Hp → Prop, (∀ H', Nx H' → ∃ m', m' < m ∧ W (i + 1) m' H') ∧ ∀ x H', (Itl K a).yld i H x H' → g x (wipe σ vs) H' fun σ2 H2 => wipe σ2 vs = wipe σ vs ∧ tYes σ2 H2 fun b H3 =>
        if b = true then te σ2 H3 fun y H4 => ∃ acc, H4 D = some (.lst acc) ∧ acc.length < sizeLine ∧ Nx (upd H4 D (.lst (acc ++ [y]))) else Nx H3) := by
  refine lc_list (xs := xs) (fun i H => Same H1 H ∧ H D = some (.lst ((xs.take i).map G))) ⟨same_new hD _, upd_same⟩ (fun i H _ h => h.1.seq hx) (fun i x H hix h => ?_) (fun H h => hd H h.1 (by rw [h.2, List.take_length]))
  have hg := grown (H := H) (D := D) (G := G) hix hl
  have := hs i x H (fun y H4 => ∃ acc, H4 D = some (.lst acc) ∧ acc.length < sizeLine ∧ (Same H1 (upd H4 D (.lst (acc ++ [y]))) ∧ (upd H4 D (.lst (acc ++ [y]))) D = some (.lst ((xs.take (i + 1)).map G)))) hix h.1
    ⟨_, h.2, hg.1, fun b o e => by rw [upd_ne (ne_of_none e hD)]; exact h.1 b o e, by rw [upd_same, hg.2]⟩
  exact this
theorem comp_tup (G : V → V) (hx : SqT K H1 a xs) (hD : H1 D = none) (hl : xs.length ≤ 1000)
    (hs : ∀ (i : Nat) (x : V) (H : Hp) (Nx : V → Hp → Prop), xs[i]? = some x → Same H1 H → Nx (G x) H → g x (wipe σ vs) H fun σ2 H2 => wipe σ2 vs = wipe σ vs ∧ te σ2 H2 Nx)
    (hd : ∀ H, Same H1 H → H D = some (.lst (xs.map G)) → Qd H) :
    ∃ W : Nat → Nat → Hp → Prop, (∃ m, W 0 m (upd H1 D (.lst []))) ∧ ∀ i m H, W i m H →
      ((Itt K a).stop i H ∧ Qd H) ∨ ((Itt K a).go i H ∧ ∃ Nx : Hp → Prop, (∀ H', Nx H' → ∃ m', m' < m ∧ W (i + 1) m' H') ∧ ∀ x H', (Itt K a).yld i H x H' → g x (wipe σ vs) H' fun σ2 H2 => wipe σ2 vs = wipe σ vs ∧ tYes σ2 H2 fun b H3 =>
        if b = true then te σ2 H3 fun y H4 => ∃ acc, H4 D = some (.lst acc) ∧ acc.length < sizeLine ∧ Nx (upd H4 D (.lst (acc ++ [y]))) else Nx H3) := by
  refine lc_tup (xs := xs) (fun i H => Same H1 H ∧ H D = some (.lst ((xs.take i).map G))) ⟨same_new hD _, upd_same⟩ (fun i H _ h => Same.seqT h.1 hx) (fun i x H hix h => ?_) (fun H h => hd H h.1 (by rw [h.2, List.take_length]))
  have hg := grown (H := H) (D := D) (G := G) hix hl
  have := hs i x H (fun y H4 => ∃ acc, H4 D = some (.lst acc) ∧ acc.length < sizeLine ∧ (Same H1 (upd H4 D (.lst (acc ++ [y]))) ∧ (upd H4 D (.lst (acc ++ [y]))) D = some (.lst ((xs.take (i + 1)).map G)))) hix h.1
    ⟨_, h.2, hg.1, fun b o e => by rw [upd_ne (ne_of_none e hD)]; exact h.1 b o e, by rw [upd_same, hg.2]⟩
  exact this
end
/-- a list or a tuple -/
def Sq (K : PySem.W.Frag) (H : Hp) (a : Addr) (xs : List V) : Prop := SqL K H a xs ∨ SqT K H a xs
theorem Sq.same {K : PySem.W.Frag} {H H' : Hp} {a : Addr} {xs : List V} (h : Sq K H a xs) (s : Same H H') : Sq K H' a xs := h.elim (fun h => .inl (s.seq h)) fun h => .inr (Same.seqT s h)
theorem Sq.but {K : PySem.W.Frag} {p : Addr} {H H' : Hp} {a : Addr} {xs : List V} (h : Sq K H a xs) (n : a ≠ p) (s : But p H H') : Sq K H' a xs := h.elim (fun h => .inl (s.seq n h)) fun h => .inr (s.seqT n h)
/-! ### ints in lists -/
theorem map_at {row : List Int} {i : Nat} (h : i < row.length) : (row.map V.int)[i]? = some (.int (co row i)) := by
  rw [List.getElem?_map, List.getElem?_eq_getElem h]
  simp [co, List.getD_eq_getElem?_getD, h]
theorem map_atI {row : List Int} {i : Int} (h0 : 0 ≤ i) (h : i < row.length) : atI (row.map V.int) i = some (.int (co row i.toNat)) := by
  obtain ⟨k, rfl⟩ := Int.eq_ofNat_of_zero_le h0
  exact atI_nat (map_at (by omega))
theorem map_last {row : List Int} (h : row ≠ []) : atI (row.map V.int) (-1) = some (.int (co row (row.length - 1))) := by
  have hp := List.length_pos_iff.mpr h
  have e : ixN (row.map V.int).length (-1) = some (row.length - 1) := by
    unfold ixN
    rw [if_neg (by decide), if_pos (by rw [List.length_map]; omega), List.length_map]
    congr 1; omega
  unfold atI
  rw [e]
  exact map_at (by omega)
theorem map_mem {row : List Int} {i : Nat} {x : V} (h : (row.map V.int)[i]? = some x) : i < row.length ∧ x = .int (co row i) := by
  have hi : i < row.length := by
    have := (List.getElem?_eq_some_iff.mp h).1
    rwa [List.length_map] at this
  refine ⟨hi, ?_⟩
  rw [map_at hi] at h
  exact (Option.some.inj h).symm
theorem log_small {z : Int} {n m : Nat} (h : z.natAbs < 2 ^ n) (h0 : 0 < n) (hm : n ≤ m) : z.natAbs.log2 < m := Nat.lt_of_lt_of_le (PySem.Flt.log2_lt_of h0 h) hm
section
variable {D : Addr} {g : TG} {te : TE} {vs : List Nat} {σ : L2.St} {H1 : Hp} {Qd : Hp → Prop}
theorem comp_range (G : Nat → V) (n : Nat) (hD : H1 D = none) (hl : n ≤ 1000)
    (hs : ∀ (i : Nat) (H : Hp) (Nx : V → Hp → Prop), i < n → Same H1 H → Nx (G i) H → g (.int (0 + (i : Nat))) (wipe σ vs) H fun σ2 H2 => wipe σ2 vs = wipe σ vs ∧ te σ2 H2 Nx)
    (hd : ∀ H, Same H1 H → H D = some (.lst ((List.range n).map G)) → Qd H) :
    ∃ W : Nat → Nat → Hp → Prop, (∃ m, W 0 m (upd H1 D (.lst []))) ∧ ∀ i m H, W i m H →
      ((Itr 0 n).stop i H ∧ Qd H) ∨ ((Itr 0 n).go i H ∧ ∃ Nx : Hp → Prop, (∀ H', Nx H' → ∃ m', m' < m ∧ W (i + 1) m' H') ∧ ∀ x H', (Itr 0 n).yld i H x H' → g x (wipe σ vs) H' fun σ2 H2 => wipe σ2 vs = wipe σ vs ∧ tYes σ2 H2 fun b H3 =>
        if b = true then te σ2 H3 fun y H4 => ∃ acc, H4 D = some (.lst acc) ∧ acc.length < sizeLine ∧ Nx (upd H4 D (.lst (acc ++ [y]))) else Nx H3) := by
  refine lc_range (lo := 0) (n := n) (fun i H => Same H1 H ∧ H D = some (.lst ((List.range i).map G))) ⟨same_new hD _, upd_same⟩ (fun i H hi h => ?_) (fun H h => hd H h.1 h.2)
  have := hs i H (fun y H4 => ∃ acc, H4 D = some (.lst acc) ∧ acc.length < sizeLine ∧ (Same H1 (upd H4 D (.lst (acc ++ [y]))) ∧ (upd H4 D (.lst (acc ++ [y]))) D = some (.lst ((List.range (i + 1)).map G)))) hi h.1
    ⟨_, h.2, small1000 (by rw [List.length_map, List.length_range]; omega), fun b o e => by rw [upd_ne (ne_of_none e hD)]; exact h.1 b o e, by rw [upd_same, List.range_succ, List.map_append]; rfl⟩
  exact this
end
/-- an item of a list or a tuple of ints -/
theorem rix {K : PySem.W.Frag} {H : Hp} {a : Addr} {row : List Int} {i : Int} {Q : VK} (h : Sq K H a (row.map V.int)) (h0 : 0 ≤ i) (h1 : i < row.length) (q : Q (.int (co row i.toNat)) H) : rIx K (.ref a) (.int i) H Q :=
  h.elim (fun h => .inl ⟨a, _, _, _, rfl, rfl, h, map_atI h0 h1, q⟩) fun h => .inr (.inl ⟨a, _, _, _, rfl, rfl, h, map_atI h0 h1, q⟩)
theorem set_map {p : List Int} {k : Nat} {z : Int} : (p.map V.int).set k (.int z) = (p.set k z).map V.int := by rw [List.map_set]
theorem ixN_nat {n : Nat} {k : Int} (h0 : 0 ≤ k) (h : k < n) : ixN n k = some k.toNat := by
  unfold ixN; rw [if_pos h0, if_pos h]
theorem cut_to (xs : List V) (n : Nat) (h : n ≤ xs.length) : cutV xs none (some (n : Int)) = xs.take n := by
  unfold cutV
  rw [HT.sIx_none, HT.sIx_nat, Nat.min_eq_left h, List.drop_zero, Nat.sub_zero]
def rLen (K : PySem.W.Frag) : List V → Hp → VK → Prop := fun xs H Q => ∃ p ys, xs = [.ref p] ∧ (SqL K H p ys ∨ SqT K H p ys) ∧ Q (.int ys.length) H
/-! the rules that read the written part, said with it: for use within a comprehension -/
section
variable {X : Cx} {K : PySem.W.Frag}
theorem call_lenK (e : X.K = K) : CallR X (.builtin "len") (rLen K) := by subst e; exact call_len_seq
theorem ix_seqK (e : X.K = K) : IxR X (rIx K) := by subst e; exact ix_seq
theorem ix_listK (e : X.K = K) : IxR X (rIxL K) := by subst e; exact ix_list
theorem ix_tupK (e : X.K = K) : IxR X (rIxT K) := by subst e; exact ix_tup
end
theorem same_put {H H' : Hp} {D : Addr} {o : HO} (s : Same H H') (hD : H D = none) : Same H (upd H' D o) := fun b u h => by
  rw [upd_ne (ne_of_none h hD)]; exact s b u h
/-! rows of ints as data -/
theorem dp_all {K : PySem.W.Frag} {H : Hp} : ∀ r : List Int, DpAll K H (r.map V.int) (r.map PyData.int)
  | [] => .nil
  | x :: r => .cons (.int x) (dp_all r)
theorem lay_all : ∀ r : List Int, PyData.canLayAll0 (r.map PyData.int) = true
  | [] => by simp [PyData.canLayAll0]
  | x :: r => by simp [PyData.canLayAll0, PyData.canLay0, lay_all r]
theorem deep_all : ∀ r : List Int, PyData.depthAll (r.map PyData.int) = 0
  | [] => by simp [PyData.depthAll]
  | x :: r => by simp [PyData.depthAll, PyData.depth, deep_all r]
theorem shaped_l (r : List Int) : SeqAt.shaped (.list (r.map PyData.int)) = true := by
  simp [SeqAt.shaped, PyData.canLay0, lay_all, PyData.depth, deep_all]
theorem shaped_t (r : List Int) : SeqAt.shaped (.tuple (r.map PyData.int)) = true := by
  simp [SeqAt.shaped, PyData.canLay0, lay_all, PyData.depth, deep_all]
theorem eqv_all : ∀ r q : List Int, PyData.eqvAll (r.map PyData.int) (q.map PyData.int) = decide (r = q)
  | [], [] => by simp [PyData.eqvAll]
  | [], y :: q => by simp [PyData.eqvAll]
  | x :: r, [] => by simp [PyData.eqvAll]
  | x :: r, y :: q => by
    have ih := eqv_all r q
    show (PyData.eqv (.int x) (.int y) && PyData.eqvAll (r.map PyData.int) (q.map PyData.int)) = _
    rw [ih]
    have e : PyData.eqv (.int x) (.int y) = (x == y) := by simp [PyData.eqv]
    rw [e, Bool.eq_iff_iff]
    simp
theorem eqv_l (r q : List Int) : PyData.eqv (.list (r.map PyData.int)) (.list (q.map PyData.int)) = decide (r = q) := by
  rw [← eqv_all]; simp [PyData.eqv]
theorem eqv_t (r q : List Int) : PyData.eqv (.tuple (r.map PyData.int)) (.tuple (q.map PyData.int)) = decide (r = q) := by
  rw [← eqv_all]; simp [PyData.eqv]
/-- the reading of a comparison of two rows -/
theorem eq_lists {K : PySem.W.Frag} {H : Hp} {a b : Addr} {r q : List Int} {Q : VK} (h1 : SqL K H a (r.map V.int)) (h2 : SqL K H b (q.map V.int)) (k : Q (.bl (decide (r = q))) H) : rEqD K (.ref a) (.ref b) H Q :=
  ⟨_, _, .lst h1 (dp_all r), .lst h2 (dp_all q), shaped_l r, shaped_l q, by rw [eqv_l]; exact k⟩
theorem eq_tups {K : PySem.W.Frag} {H : Hp} {a b : Addr} {r q : List Int} {Q : VK} (h1 : SqT K H a (r.map V.int)) (h2 : SqT K H b (q.map V.int)) (k : Q (.bl (decide (r = q))) H) : rEqD K (.ref a) (.ref b) H Q :=
  ⟨_, _, .tup h1 (dp_all r), .tup h2 (dp_all q), shaped_t r, shaped_t q, by rw [eqv_t]; exact k⟩
theorem ne_tups {K : PySem.W.Frag} {H : Hp} {a b : Addr} {r q : List Int} {Q : VK} (h1 : SqT K H a (r.map V.int)) (h2 : SqT K H b (q.map V.int)) (k : Q (.bl (!decide (r = q))) H) : rNeD K (.ref a) (.ref b) H Q :=
  ⟨_, _, .tup h1 (dp_all r), .tup h2 (dp_all q), shaped_t r, shaped_t q, by rw [eqv_t]; exact k⟩
theorem call_isiK {X : Cx} {K : PySem.W.Frag} (e : X.K = K) : CallR X (.builtin "isinstance") (rIsi K) := by subst e; exact call_isi
/-- a comprehension over a list whose step may make new objects -/
theorem comp_listS {K : PySem.W.Frag} {a D : Addr} {xs : List V} {g : TG} {te : TE} {vs : List Nat} {σ : L2.St} {H1 : Hp} {Qd : Hp → Prop} (R : V → Prop) (hx : SqL K H1 a xs) (hD : H1 D = none) (hl : xs.length ≤ 1000)
    (hs : ∀ (i : Nat) (x : V) (H : Hp) (Nx : V → Hp → Prop), xs[i]? = some x → Same H1 H → (∀ y H', Same H H' → R y → Nx y H') → g x (wipe σ vs) H fun σ2 H2 => wipe σ2 vs = wipe σ vs ∧ te σ2 H2 Nx)
    (hd : ∀ H ys, Same H1 H → H D = some (.lst ys) → ys.length = xs.length → (∀ y ∈ ys, R y) → Qd H) :
    ∃ W : Nat → Nat → Hp → Prop, (∃ m, W 0 m (upd H1 D (.lst []))) ∧ ∀ i m H, W i m H →
      ((Itl K a).stop i H ∧ Qd H) ∨ ((Itl K a).go i H ∧ ∃ Nx : Hp → Prop, (∀ H', Nx H' → ∃ m', m' < m ∧ W (i + 1) m' H') ∧ ∀ x H', (Itl K a).yld i H x H' → g x (wipe σ vs) H' fun σ2 H2 => wipe σ2 vs = wipe σ vs ∧ tYes σ2 H2 fun b H3 =>
        if b = true then te σ2 H3 fun y H4 => ∃ acc, H4 D = some (.lst acc) ∧ acc.length < sizeLine ∧ Nx (upd H4 D (.lst (acc ++ [y]))) else Nx H3) := by
  refine lc_list (xs := xs) (fun i H => Same H1 H ∧ ∃ ys, H D = some (.lst ys) ∧ ys.length = i ∧ ∀ y ∈ ys, R y) ⟨same_new hD _, [], upd_same, rfl, fun y h => by cases h⟩ (fun i H _ h => h.1.seq hx) (fun i x H hix h => ?_) (fun H h => ?_)
  · obtain ⟨sm, ys, e, l, r⟩ := h
    have hi : i < xs.length := (List.getElem?_eq_some_iff.mp hix).1
    have := hs i x H (fun y H4 => ∃ acc, H4 D = some (.lst acc) ∧ acc.length < sizeLine ∧ (Same H1 (upd H4 D (.lst (acc ++ [y]))) ∧ ∃ ys, (upd H4 D (.lst (acc ++ [y]))) D = some (.lst ys) ∧ ys.length = i + 1 ∧ ∀ y ∈ ys, R y)) hix sm
      (fun y H' s2 hr => ⟨ys, s2 _ _ e, small1000 (by omega), same_put (sm.trans s2) hD, ys ++ [y], upd_same, by rw [List.length_append, l]; rfl, fun z hz => by
        rcases List.mem_append.mp hz with hz | hz
        · exact r z hz
        · rw [List.mem_singleton.mp hz]; exact hr⟩)
    exact this
  · obtain ⟨sm, ys, e, l, r⟩ := h
    exact hd H ys sm e l r
theorem bools : ∀ ys : List V, (∀ y ∈ ys, ∃ b, y = V.bl b) → ∃ bs : List Bool, ys = bs.map V.bl
  | [], _ => ⟨[], rfl⟩
  | y :: ys, h => by
    obtain ⟨b, rfl⟩ := h y List.mem_cons_self
    obtain ⟨bs, rfl⟩ := bools ys fun z hz => h z (List.mem_cons_of_mem _ hz)
    exact ⟨b :: bs, rfl⟩
theorem StX.ne {H : Hp} {p a c : Addr} {ns : List Int} (X : StX H p a ns) (n : H c = none) : c ≠ p := fun z => by
  obtain ⟨_, _, _, _, e, _⟩ := X
  rw [z, e] at n; cases n
end KG

namespace K31
open PySem PySem.Spec PyProof.Rows L2 KG
def topS (i : Nat) : Stmt := PySem.Challenge.pw_compasswork_k31_corners_of_polygons.main.body.getD i (.Pass ⟨0, 0, 0, 0⟩)
/-- the built-in names stand as they are -/
structure Names (mg : Str → Option Value) : Prop where
  ValueError : mg "ValueError" = none
  tuple : mg "tuple" = none
  any : mg "any" = none
  reversed : mg "reversed" = none
  enumerate : mg "enumerate" = none
  zip : mg "zip" = none
  range : mg "range" = none
  len : mg "len" = none
  max : mg "max" = none
  int : mg "int" = none
  abs : mg "abs" = none
  NotImplemented : mg "NotImplemented" = none
  min : mg "min" = none
  isinstance : mg "isinstance" = none
  str : mg "str" = none
  gcd : mg "gcd" = some (.builtin "math.gcd")
  isqrt : mg "isqrt" = some (.builtin "math.isqrt")
  FIRST_BITS : ∃ t, mg "FIRST_BITS" = some (.int 64 t)
  MOST_TRIED : ∃ t, mg "MOST_TRIED" = some (.int 100 t)
  MOST_GENERATORS : ∃ t, mg "MOST_GENERATORS" = some (.int 4 t)
  MOST_DIGITS : ∃ t, mg "MOST_DIGITS" = some (.int 30 t)
abbrev s_law_state : Stmt := topS 99
abbrev N_law_state : List Str := ["script", "mixed", "rest"]
theorem sc_law_state : FnScope N_law_state ["script"] (defScope s_law_state) := ⟨rfl, rfl, rfl, by decide +kernel, rfl, by decide +kernel, by decide +kernel⟩
abbrev s_law_take : Stmt := topS 100
abbrev N_law_take : List Str := ["state", "many", "cell", "drawn"]
theorem sc_law_take : FnScope N_law_take ["state", "many"] (defScope s_law_take) := ⟨rfl, rfl, rfl, by decide +kernel, rfl, by decide +kernel, by decide +kernel⟩
section
variable {P : Program} {w : World} {K : PySem.W.Frag} {mg : Str → Option Value} {base : Heap}
def sp_law_state (K : PySem.W.Frag) : Sp := fun vs H Q _ => ∃ (a : Addr) (ns : List Int), vs = [.ref a] ∧ SqL K H a (ns.map V.int) ∧ ns.length ≤ 63 ∧
  ∀ H' p, Same H H' → H p = none → StX H' p a ns → SqO K H' p a (ns.map V.int) → Q (.ref p) H'
theorem ok_law_state {f : Addr} {fd : FuncData} {k : Nat} (F : Fun K "_law_state" "_law_state" s_law_state f fd) (M : Names mg) : FnOk P w K mg base CX0 (k + 1) f fd ["script"] (sp_law_state K) := by
  refine F.ok sc_law_state (fun vs H Q E h => ?_) (fun cdv A outer s H vs Q E hr h => ?_)
  · obtain ⟨a, ns, rfl, _⟩ := h
    rfl
  obtain ⟨a, ns, rfl, hS, h63, q⟩ := h
  refine ⟨_, (pss_cons (ps_set (i := 1) sc_law_state.nd rfl (.inl rfl) pe_int)
    (pss_cons (ps_set (i := 2) sc_law_state.nd rfl (.inl rfl) pe_int)
    (pss_cons (ps_if (pt_cmpR op_gt (pe_callB call_len_seq (by rfl) M.len PySem.boot_len (pa_cons (pv 0) pa_nil)) pe_int (nomark _))
      (pss_cons (ps_set (i := 1) sc_law_state.nd rfl (.inl rfl) (pe_op op_mod (pe_callTy call_int1 (by rfl) M.int (by decide +kernel) (pa_cons (pe_ix ix_list (pv 0) pe_int (fun _ _ => rfl)) pa_nil)) pe_int))
      (pss_one (ps_set (i := 2) sc_law_state.nd rfl (.inl rfl) (pe_ix ix_list (pe_lst (pa_cons (pe_op op_fdiv (pe_callB call_abs (by rfl) M.abs (by decide +kernel) (pa_cons (pe_ix ix_list (pv 0) pe_int (fun _ _ => rfl)) pa_nil)) pe_int) (pa_cons pe_int pa_nil))) (pv 1) (fun _ _ => rfl)))))
      pss_nil)
    (pss_one (ps_ret (pe_lst (pa_cons (pv 0) (pa_cons (pv 2) (pa_cons pe_int (pa_cons (pv 1) (pa_cons (pe_lst pa_nil) (pa_cons pe_int (pa_cons pe_int (pa_cons pe_int pa_nil)))))))))))))), ?_⟩
  -- the end, once for both ways
  have fin : ∀ (r m : Int) (H1 : Hp), Same H H1 → StOk ns r 1 m → ∀ e, H1 e = none → ∀ p, (upd H1 e (.lst [])) p = none → Q (.ref p) (upd (upd H1 e (.lst [])) p (.lst (stL a e r 1 m))) := fun r m H1 sm ok e he p hp => by
    have s2 : Same H1 (upd H1 e (.lst [])) := same_new he _
    have s3 : Same (upd H1 e (.lst [])) (upd (upd H1 e (.lst [])) p (.lst (stL a e r 1 m))) := same_new hp _
    exact q _ p (sm.trans (s2.trans s3)) (sm.free (s2.free hp)) ⟨e, r, 1, m, upd_same, ok⟩ ((SqO.new (s2.seq (sm.seq hS)) hp).but (.put _ _))
  refine ⟨_, rfl, a, _, rfl, .inl hS, _, _, rfl, rfl, _, rfl, ite2 (fun c => ?_) (fun c => ?_)⟩
  · have hl : (ns.map V.int).length = ns.length := List.length_map _
    have hpos : 0 < ns.length := by
      have := of_decide_eq_true c
      rw [hl] at this; omega
    obtain ⟨v, hv⟩ := at_n (ns := ns) (i := 0) (by omega) (by omega)
    refine ⟨_, rfl, a, _, _, _, rfl, rfl, hS, hv, .inl ⟨_, rfl, ?_⟩⟩
    refine ⟨_, _, rfl, rfl, (by show (0 : Int) < 2; decide), ?_⟩
    refine ⟨_, rfl, a, _, _, _, rfl, rfl, hS, hv, _, rfl, _, _, rfl, rfl, ⟨by decide, by decide⟩, (by show 2 ≤ sizeLine; decide), fun t ht => ?_⟩
    have h2 : v % 2 = 0 ∨ v % 2 = 1 := by omega
    rcases h2 with h2 | h2
    · rw [show (fun i j => V.int (i % j)) v 2 = V.int 0 from congrArg V.int h2]
      refine ⟨_, rfl, t, _, 0, _, rfl, rfl, SqL.of upd_same, atI_nat (j := 0) rfl, ?_⟩
      refine ⟨_, rfl, _, rfl, _, rfl, Nat.zero_le _, fun e he => ⟨(by show 8 ≤ sizeLine; decide), fun p hp => ?_⟩⟩
      exact fin _ _ _ (same_new ht _) (.inr ⟨rfl, by split <;> omega, by decide⟩) e he p hp
    · rw [show (fun i j => V.int (i % j)) v 2 = V.int 1 from congrArg V.int h2]
      refine ⟨_, rfl, t, _, 1, _, rfl, rfl, SqL.of upd_same, atI_nat (j := 1) rfl, ?_⟩
      refine ⟨_, rfl, _, rfl, _, rfl, Nat.zero_le _, fun e he => ⟨(by show 8 ≤ sizeLine; decide), fun p hp => ?_⟩⟩
      exact fin _ _ _ (same_new ht _) (.inl ⟨rfl, hpos⟩) e he p hp
  · refine ⟨_, rfl, _, rfl, _, rfl, Nat.zero_le _, fun e he => ⟨(by show 8 ≤ sizeLine; decide), fun p hp => ?_⟩⟩
    exact fin _ _ _ (Same.refl _) (.inr ⟨rfl, by decide, by decide⟩) e he p hp
def sp_law_take (K : PySem.W.Frag) : Sp := fun vs H Q _ => ∃ (p a : Addr) (ns : List Int) (many : Int), vs = [.ref p, .int many] ∧ StX H p a ns ∧ SqO K H p a (ns.map V.int) ∧ 0 < many ∧ many.natAbs.log2 < 9000 ∧
  ∀ (d : Int) (H' : Hp), 0 ≤ d → d < many → StX H' p a ns → But p H H' → Q (.int d) H'
theorem ok_law_take {f : Addr} {fd : FuncData} {k : Nat} (F : Fun K "_law_take" "_law_take" s_law_take f fd) (M : Names mg) : FnOk P w K mg base CX0 (k + 1) f fd ["state", "many"] (sp_law_take K) := by
  refine F.ok sc_law_take (fun vs H Q E h => ?_) (fun cdv A outer s H vs Q E hr h => ?_)
  · obtain ⟨p, a, ns, many, rfl, _⟩ := h
    rfl
  obtain ⟨p, a, ns, many, rfl, ⟨e, r, c, m, hp, ok⟩, hS, h0, h9, q⟩ := h
  refine ⟨_, (pss_cons (ps_if (pt_cmpR op_eq (pe_ix ix_list (pv 0) pe_int (fun _ _ => rfl)) pe_int (nomark _))
      (pss_cons (ps_set (i := 2) sc_law_take.nd rfl (.inl rfl) (pe_ix ix_list (pe_ix ix_list (pv 0) pe_int (fun _ _ => rfl)) (pe_op op_mod (pe_callTy call_int1 (by rfl) M.int (by decide +kernel) (pa_cons (pe_ix ix_list (pv 0) pe_int (fun _ _ => rfl)) pa_nil)) (pe_callB call_len_seq (by rfl) M.len PySem.boot_len (pa_cons (pe_ix ix_list (pv 0) pe_int (fun _ _ => rfl)) pa_nil))) (fun _ _ => rfl)))
      (pss_cons (ps_asg (pe_op op_mod (pe_callTy call_int1 (by rfl) M.int (by decide +kernel) (pa_cons (pe_op op_add (pe_op op_add (pe_op op_add (pe_op op_mul (pe_ix ix_list (pv 0) pe_int (fun _ _ => rfl)) pe_int) (pe_op op_mul (pv 2) pe_int)) (pe_op op_mul (pe_ix ix_list (pv 0) pe_int (fun _ _ => rfl)) pe_int)) pe_int) pa_nil)) pe_int) (pg_sub (pv 0) pe_int set_list))
      (pss_cons (ps_asg (pe_op op_add (pe_ix ix_list (pv 0) pe_int (fun _ _ => rfl)) pe_int) (pg_sub (pv 0) pe_int set_list))
      (pss_one (ps_ret (pe_op op_mod (pe_op op_mod (pe_callTy call_int1 (by rfl) M.int (by decide +kernel) (pa_cons (pe_op op_add (pe_op op_mul (pe_ix ix_list (pv 0) pe_int (fun _ _ => rfl)) pe_int) pe_int) pa_nil)) pe_int) (pv 1)))))))
      pss_nil)
    (pss_cons (ps_if (pt_cmpR op_eq (pe_ix ix_list (pv 0) pe_int (fun _ _ => rfl)) pe_int (nomark _))
      (pss_cons (ps_if (pt_cmpR op_ge (pe_ix ix_list (pv 0) pe_int (fun _ _ => rfl)) (pe_callB call_len_seq (by rfl) M.len PySem.boot_len (pa_cons (pe_ix ix_list (pv 0) pe_int (fun _ _ => rfl)) pa_nil)) (nomark _))
        (pss_one (ps_ret pe_int))
        pss_nil)
      (pss_cons (ps_asg (pe_callB call_abs (by rfl) M.abs (by decide +kernel) (pa_cons (pe_ix ix_list (pe_ix ix_list (pv 0) pe_int (fun _ _ => rfl)) (pe_ix ix_list (pv 0) pe_int (fun _ _ => rfl)) (fun _ _ => rfl)) pa_nil)) (pg_sub (pv 0) pe_int set_list))
      (pss_one (ps_asg (pe_op op_add (pe_ix ix_list (pv 0) pe_int (fun _ _ => rfl)) pe_int) (pg_sub (pv 0) pe_int set_list)))))
      pss_nil)
    (pss_cons (ps_set (i := 3) sc_law_take.nd rfl (.inl rfl) (pe_op op_mod (pe_callTy call_int1 (by rfl) M.int (by decide +kernel) (pa_cons (pe_ix ix_list (pv 0) pe_int (fun _ _ => rfl)) pa_nil)) (pv 1)))
    (pss_cons (ps_asg (pe_op op_fdivW (pe_ix ix_list (pv 0) pe_int (fun _ _ => rfl)) (pv 1)) (pg_sub (pv 0) pe_int set_list))
    (pss_one (ps_ret (pv 3))))))), ?_⟩
  have hSn : SqL K H a (ns.map V.int) := hS.now hp
  have hl : (ns.map V.int).length = ns.length := List.length_map _
  refine ⟨_, rfl, p, _, 3, _, rfl, rfl, SqL.of hp, atI_nat (j := 3) rfl, rfl, _, rfl, ite2 (fun t1 => ?_) (fun t1 => ?_)⟩
  · -- mixed draws
    have m1 : m = 1 := V.int.inj (of_decide_eq_true t1)
    have npos : 0 < ns.length := by
      rcases ok with ⟨_, z⟩ | ⟨z, _⟩
      · exact z
      · omega
    obtain ⟨v, hv⟩ := at_n (ns := ns) (i := c % ((ns.map V.int).length : Nat)) (Int.emod_nonneg _ (by omega)) (by rw [hl]; exact Int.emod_lt_of_pos _ (by omega))
    refine ⟨_, rfl, p, _, 0, _, rfl, rfl, SqL.of hp, atI_nat (j := 0) rfl, _, rfl, p, _, 2, _, rfl, rfl, SqL.of hp, atI_nat (j := 2) rfl, .inl ⟨_, rfl, ?_⟩⟩
    refine ⟨_, rfl, p, _, 0, _, rfl, rfl, SqL.of hp, atI_nat (j := 0) rfl, a, _, rfl, .inl hSn, _, _, rfl, rfl, (by show (0 : Int) < ((ns.map V.int).length : Nat); omega), a, _, _, _, rfl, rfl, hSn, hv, ?_⟩
    -- state[1] = ..
    refine ⟨_, rfl, p, _, 1, _, rfl, rfl, SqL.of hp, atI_nat (j := 1) rfl, _, _, rfl, rfl, .inr ⟨by decide, by decide⟩, _, rfl, _, _, rfl, rfl, .inr ⟨by decide, by decide⟩, _, _, rfl, rfl, _, rfl, p, _, 2, _, rfl, rfl, SqL.of hp, atI_nat (j := 2) rfl, _, _, rfl, rfl, .inr ⟨by decide, by decide⟩, _, _, rfl, rfl, _, _, rfl, rfl, .inl ⟨_, rfl, ?_⟩⟩
    refine ⟨_, _, rfl, rfl, (by show (0 : Int) < 2147483647; decide), _, rfl, p, _, 1, 1, rfl, rfl, hp, rfl, ?_⟩
    -- state[2] = ..
    refine ⟨_, rfl, p, _, 2, _, rfl, rfl, SqL.of upd_same, atI_nat (j := 2) rfl, _, _, rfl, rfl, _, rfl, p, _, 2, 2, rfl, rfl, upd_same, rfl, ?_⟩
    refine ⟨_, rfl, p, _, 1, _, rfl, rfl, SqL.of upd_same, atI_nat (j := 1) rfl, _, _, rfl, rfl, .inr ⟨by decide, by decide⟩, _, _, rfl, rfl, .inl ⟨_, rfl, ?_⟩⟩
    refine ⟨_, _, rfl, rfl, (by show (0 : Int) < 2147483629; decide), _, rfl, _, _, rfl, rfl, h0, ?_⟩
    refine q _ _ (Int.emod_nonneg _ (by omega)) (Int.emod_lt_of_pos _ h0) ⟨e, _, _, m, upd_same, ?_⟩ ((But.put _ _).trans (.put _ _))
    exact .inl ⟨m1, npos⟩
  · -- whole numbers, drawn from by their rests
    have m0 : m = 0 ∧ 0 ≤ r ∧ 0 ≤ c := by
      rcases ok with ⟨z, _⟩ | z
      · exact absurd (by rw [z]; rfl) t1
      · exact z
    obtain ⟨rfl, r0, c0⟩ := m0
    have fin : ∀ (r1 c1 : Int) (H1 : Hp), 0 ≤ r1 → 0 ≤ c1 → But p H H1 → H1 p = some (.lst (stL a e r1 c1 0)) → ∀ d, d = r1 % many → Q (.int d) (upd H1 p (.lst (stL a e (r1 / many) c1 0))) := fun r1 c1 H1 k1 k2 k3 k4 d hd => by
      subst hd
      exact q _ _ (Int.emod_nonneg _ (by omega)) (Int.emod_lt_of_pos _ h0) ⟨e, _, _, 0, upd_same, .inr ⟨rfl, Int.ediv_nonneg k1 (by omega), k2⟩⟩ (k3.trans (.put _ _))
    refine ⟨_, rfl, p, _, 1, _, rfl, rfl, SqL.of hp, atI_nat (j := 1) rfl, rfl, _, rfl, ite2 (fun t2 => ?_) (fun t2 => ?_)⟩
    · refine ⟨_, rfl, p, _, 2, _, rfl, rfl, SqL.of hp, atI_nat (j := 2) rfl, _, rfl, p, _, 0, _, rfl, rfl, SqL.of hp, atI_nat (j := 0) rfl, a, _, rfl, .inl hSn, _, _, rfl, rfl, _, rfl, ite2 (fun t3 => ?_) (fun t3 => ?_)⟩
      · exact q _ _ (Int.le_refl 0) h0 ⟨e, r, c, 0, hp, ok⟩ (But.refl _ _)
      · have lt : c < ((ns.map V.int).length : Nat) := by
          have := of_decide_eq_false (Bool.eq_false_iff.mpr t3)
          omega
        obtain ⟨v, hv⟩ := at_n (ns := ns) (i := c) c0 (by omega)
        refine ⟨_, rfl, p, _, 0, _, rfl, rfl, SqL.of hp, atI_nat (j := 0) rfl, _, rfl, p, _, 2, _, rfl, rfl, SqL.of hp, atI_nat (j := 2) rfl, a, _, _, _, rfl, rfl, hSn, hv, _, rfl, _, rfl, p, _, 1, 1, rfl, rfl, hp, rfl, ?_⟩
        refine ⟨_, rfl, p, _, 2, _, rfl, rfl, SqL.of upd_same, atI_nat (j := 2) rfl, _, _, rfl, rfl, _, rfl, p, _, 2, 2, rfl, rfl, upd_same, rfl, ?_⟩
        refine ⟨_, rfl, p, _, 1, _, rfl, rfl, SqL.of upd_same, atI_nat (j := 1) rfl, .inl ⟨_, rfl, ?_⟩⟩
        refine ⟨_, rfl, _, _, rfl, rfl, h0, ?_⟩
        refine ⟨_, rfl, p, _, 1, _, rfl, rfl, SqL.of upd_same, atI_nat (j := 1) rfl, _, rfl, _, _, rfl, rfl, ⟨h0, h9⟩, _, rfl, p, _, 1, 1, rfl, rfl, upd_same, rfl, ?_⟩
        refine ⟨_, rfl, ?_⟩
        exact fin (if v < 0 then -v else v) (c + 1) (upd (upd H p _) p _) (by split <;> omega) (by omega) ((But.put _ _).trans (.put _ _)) upd_same _ rfl
    · refine ⟨_, rfl, p, _, 1, _, rfl, rfl, SqL.of hp, atI_nat (j := 1) rfl, .inl ⟨_, rfl, ?_⟩⟩
      refine ⟨_, rfl, _, _, rfl, rfl, h0, ?_⟩
      refine ⟨_, rfl, p, _, 1, _, rfl, rfl, SqL.of hp, atI_nat (j := 1) rfl, _, rfl, _, _, rfl, rfl, ⟨h0, h9⟩, _, rfl, p, _, 1, 1, rfl, rfl, hp, rfl, ?_⟩
      refine ⟨_, rfl, ?_⟩
      exact fin r c H r0 c0 (But.refl _ _) hp _ rfl
end
end K31

/-! code that is never reached; methods that may be called; self.a in a tuple of targets; comprehensions whose elements are laid -/
namespace KG
open PySem PySem.Spec PyProof.Rows L2
theorem pss_nev {X : Cx} {ss : List Stmt} : PSs X ss (fun _ _ _ => False) := ⟨fun _ _ _ _ _ _ h => h.elim⟩
theorem ps_nev {X : Cx} {st : Stmt} : PS X st (fun _ _ _ => False) := ⟨fun _ _ _ _ _ _ h => h.elim⟩
theorem pe_nev {X : Cx} {e : Expr} : PE X e (fun _ _ _ => False) := ⟨fun _ _ _ _ _ _ h => h.elim⟩
theorem pt_nev {X : Cx} {e : Expr} : PT X e (fun _ _ _ => False) := ⟨fun _ _ _ _ _ _ h => h.elim⟩
/-- a method that may be called -/
structure MCal (P : Program) (w : World) (K : PySem.W.Frag) (mg : Str → Option Value) (base : Heap) (k : Nat) (C : Addr) (m : Str) (ps : List Str) (sp : Sp) where
  f : Addr
  fd : FuncData
  ok : FnOk P w K mg base CX0 k f fd ps sp
  b : Binds K fd ps []
  m : Meth K C m f
theorem Cal.up {P : Program} {w : World} {K : PySem.W.Frag} {mg : Str → Option Value} {base : Heap} {k : Nat} {x : Str} {ps : List Str} {sp : Sp} (_ : Cal P w K mg base k x ps sp) : True := trivial
def gAtt (K : PySem.W.Frag) (ta : TE) (f : Str) : TG := fun y σ H Q => ta σ H fun x H2 => ∃ a C dx fs, x = .ref a ∧ H2 a = some (.ins C dx fs) ∧ Cls K C ∧ NoAttr K C f ∧ fs.length < 1000 ∧ Q σ (upd H2 a (.ins C dx (putF f y fs)))
theorem pg_att {X : Cx} {o : Expr} {ta : TE} {f : Str} {pos : Pos} (ho : PE X o ta)
    (ha : ∀ v, assign (.Attribute o f pos) X.env v = (do { let ov ← holding [v] (eval o X.env); standAt pos.atName; holding [v, ov] (setAttr ov f v); release [v, ov] [] }) := by intro _; rfl) : PG X (.Attribute o f pos) (gAtt X.K ta f) := by
  refine ⟨fun pins s σ H v u Q I r h => ?_⟩
  rw [ha]
  refine wpAny_bind (wpAny_holding (thn (ho.run pins s σ H _ I h) fun ov s1 ⟨x, H1, I1, r1, a, C, dx, fs, ex, ea, c, n, l, q⟩ => ?_))
  subst ex
  obtain rfl : ov = Value.ref a := r1
  refine wpAny_bind (wpAny_standAt (wpAny_bind (wpAny_holding (setattr_ok I1 ea c n l r fun s3 I3 => ?_))))
  exact wpAny_release ⟨σ, _, I3, q⟩
/-! comprehensions whose elements are laid anew: R j H y tells what stands for the j-th element -/
def Kept (H H' : Hp) : Prop := ∀ b o, (∀ l, o ≠ .lst l) → H b = some o → H' b = some o
theorem Kept.of {H H' : Hp} (s : Same H H') : Kept H H' := fun b o _ h => s b o h
theorem Kept.put {H : Hp} {D : Addr} {l : List V} {o : HO} (h : H D = some (.lst l)) : Kept H (upd H D o) := fun b u n e => by
  rw [upd_ne (fun z => by rw [z, h] at e; exact n l (Option.some.inj e).symm)]; exact e
section
variable {K : PySem.W.Frag} {a D : Addr} {xs : List V} {g : TG} {te : TE} {vs : List Nat} {σ : L2.St} {H1 : Hp} {Qd : Hp → Prop}
theorem compR_list (R : Nat → Hp → V → Prop) (mono : ∀ j H H' y, Kept H H' → R j H y → R j H' y) (hx : SqL K H1 a xs) (hD : H1 D = none) (hl : xs.length ≤ 1000)
    (hs : ∀ (i : Nat) (x : V) (H : Hp) (Nx : V → Hp → Prop), xs[i]? = some x → Same H1 H → (∀ H' y, Same H H' → R i H' y → Nx y H') → g x (wipe σ vs) H fun σ2 H2 => wipe σ2 vs = wipe σ vs ∧ te σ2 H2 Nx)
    (hd : ∀ H ys, Same H1 H → H D = some (.lst ys) → ys.length = xs.length → (∀ (j : Nat) y, ys[j]? = some y → R j H y) → Qd H) :
    ∃ W : Nat → Nat → Hp → Prop, (∃ m, W 0 m (upd H1 D (.lst []))) ∧ ∀ i m H, W i m H →
      ((Itl K a).stop i H ∧ Qd H) ∨ ((Itl K a).go i H ∧ ∃ Nx : Hp → Prop, (∀ H', Nx H' → ∃ m', m' < m ∧ W (i + 1) m' H') ∧ ∀ x H', (Itl K a).yld i H x H' → g x (wipe σ vs) H' fun σ2 H2 => wipe σ2 vs = wipe σ vs ∧ tYes σ2 H2 fun b H3 =>
        if b = true then te σ2 H3 fun y H4 => ∃ acc, H4 D = some (.lst acc) ∧ acc.length < sizeLine ∧ Nx (upd H4 D (.lst (acc ++ [y]))) else Nx H3) := by
  refine lc_list (xs := xs) (fun i H => Same H1 H ∧ ∃ ys, H D = some (.lst ys) ∧ ys.length = i ∧ ∀ (j : Nat) y, ys[j]? = some y → R j H y) ⟨same_new hD _, [], upd_same, rfl, fun j y h => by simp at h⟩ (fun i H _ h => h.1.seq hx) (fun i x H hix h => ?_) (fun H h => ?_)
  · obtain ⟨sm, ys, hy, hyl, hr⟩ := h
    have hi : i < xs.length := (List.getElem?_eq_some_iff.mp hix).1
    have := hs i x H (fun y H4 => ∃ acc, H4 D = some (.lst acc) ∧ acc.length < sizeLine ∧ (Same H1 (upd H4 D (.lst (acc ++ [y]))) ∧ ∃ ys, (upd H4 D (.lst (acc ++ [y]))) D = some (.lst ys) ∧ ys.length = i + 1 ∧ ∀ (j : Nat) z, ys[j]? = some z → R j (upd H4 D (.lst (acc ++ [y]))) z)) hix sm
      (fun H' y s' hR => by
        have hD' := s' _ _ hy
        refine ⟨ys, hD', small1000 (by omega), fun b o e => by rw [upd_ne (ne_of_none e hD)]; exact s' _ _ (sm b o e), ys ++ [y], upd_same, by rw [List.length_append, hyl]; rfl, fun j z hz => ?_⟩
        rcases Nat.lt_or_ge j ys.length with hj | hj
        · rw [List.getElem?_append_left hj] at hz
          exact mono _ _ _ _ (Kept.put hD') (mono _ _ _ _ (.of s') (hr j z hz))
        · rw [List.getElem?_append_right hj] at hz
          have hj2 : j - ys.length = 0 := by
            have := (List.getElem?_eq_some_iff.mp hz).1
            rw [List.length_singleton] at this; omega
          rw [hj2] at hz
          obtain rfl : y = z := Option.some.inj hz
          have hji : j = i := by omega
          rw [hji]
          exact mono _ _ _ _ (Kept.put hD') hR)
    exact this
  · obtain ⟨sm, ys, hy, hyl, hr⟩ := h
    exact hd H ys sm hy hyl hr
theorem compR_tup (R : Nat → Hp → V → Prop) (mono : ∀ j H H' y, Kept H H' → R j H y → R j H' y) (hx : SqT K H1 a xs) (hD : H1 D = none) (hl : xs.length ≤ 1000)
    (hs : ∀ (i : Nat) (x : V) (H : Hp) (Nx : V → Hp → Prop), xs[i]? = some x → Same H1 H → (∀ H' y, Same H H' → R i H' y → Nx y H') → g x (wipe σ vs) H fun σ2 H2 => wipe σ2 vs = wipe σ vs ∧ te σ2 H2 Nx)
    (hd : ∀ H ys, Same H1 H → H D = some (.lst ys) → ys.length = xs.length → (∀ (j : Nat) y, ys[j]? = some y → R j H y) → Qd H) :
    ∃ W : Nat → Nat → Hp → Prop, (∃ m, W 0 m (upd H1 D (.lst []))) ∧ ∀ i m H, W i m H →
      ((Itt K a).stop i H ∧ Qd H) ∨ ((Itt K a).go i H ∧ ∃ Nx : Hp → Prop, (∀ H', Nx H' → ∃ m', m' < m ∧ W (i + 1) m' H') ∧ ∀ x H', (Itt K a).yld i H x H' → g x (wipe σ vs) H' fun σ2 H2 => wipe σ2 vs = wipe σ vs ∧ tYes σ2 H2 fun b H3 =>
        if b = true then te σ2 H3 fun y H4 => ∃ acc, H4 D = some (.lst acc) ∧ acc.length < sizeLine ∧ Nx (upd H4 D (.lst (acc ++ [y]))) else Nx H3) := by
  refine lc_tup (xs := xs) (fun i H => Same H1 H ∧ ∃ ys, H D = some (.lst ys) ∧ ys.length = i ∧ ∀ (j : Nat) y, ys[j]? = some y → R j H y) ⟨same_new hD _, [], upd_same, rfl, fun j y h => by simp at h⟩ (fun i H _ h => Same.seqT h.1 hx) (fun i x H hix h => ?_) (fun H h => ?_)
  · obtain ⟨sm, ys, hy, hyl, hr⟩ := h
    have hi : i < xs.length := (List.getElem?_eq_some_iff.mp hix).1
    have := hs i x H (fun y H4 => ∃ acc, H4 D = some (.lst acc) ∧ acc.length < sizeLine ∧ (Same H1 (upd H4 D (.lst (acc ++ [y]))) ∧ ∃ ys, (upd H4 D (.lst (acc ++ [y]))) D = some (.lst ys) ∧ ys.length = i + 1 ∧ ∀ (j : Nat) z, ys[j]? = some z → R j (upd H4 D (.lst (acc ++ [y]))) z)) hix sm
      (fun H' y s' hR => by
        have hD' := s' _ _ hy
        refine ⟨ys, hD', small1000 (by omega), fun b o e => by rw [upd_ne (ne_of_none e hD)]; exact s' _ _ (sm b o e), ys ++ [y], upd_same, by rw [List.length_append, hyl]; rfl, fun j z hz => ?_⟩
        rcases Nat.lt_or_ge j ys.length with hj | hj
        · rw [List.getElem?_append_left hj] at hz
          exact mono _ _ _ _ (Kept.put hD') (mono _ _ _ _ (.of s') (hr j z hz))
        · rw [List.getElem?_append_right hj] at hz
          have hj2 : j - ys.length = 0 := by
            have := (List.getElem?_eq_some_iff.mp hz).1
            rw [List.length_singleton] at this; omega
          rw [hj2] at hz
          obtain rfl : y = z := Option.some.inj hz
          have hji : j = i := by omega
          rw [hji]
          exact mono _ _ _ _ (Kept.put hD') hR)
    exact this
  · obtain ⟨sm, ys, hy, hyl, hr⟩ := h
    exact hd H ys sm hy hyl hr
end
end KG

/-! what a piece of a program computes, as a plain function over data: data, environments, judgements -/
namespace DN
open PySem PySem.Spec PyProof.Rows L2 KG
/-- data; num: an object of the class Number, its two fields -/
inductive D where
  | non | bl (b : Bool) | int (i : Int) | str (x : Str) | tup (ds : List D) | lst (ds : List D) | num (t e : D) | ref (i : Nat)
mutual
inductive Rp (C : Addr) (A : List Addr) (G : Hp) : V → D → Prop
  | non : Rp C A G .non .non
  | bl (b : Bool) : Rp C A G (.bl b) (.bl b)
  | int (i : Int) : Rp C A G (.int i) (.int i)
  | str (x : Str) : Rp C A G (.str x) (.str x)
  | tup {a : Addr} {vs : List V} {ds : List D} : G a = some (.tup vs) → RpAll C A G vs ds → Rp C A G (.ref a) (.tup ds)
  | lst {a : Addr} {vs : List V} {ds : List D} : G a = some (.lst vs) → RpAll C A G vs ds → Rp C A G (.ref a) (.lst ds)
  | num {a dx : Addr} {vt ve : V} {t e : D} : G a = some (.ins C dx [("tower", vt), ("element", ve)]) → Rp C A G vt t → Rp C A G ve e → Rp C A G (.ref a) (.num t e)
  | ref {i : Nat} {a : Addr} : A[i]? = some a → Rp C A G (.ref a) (.ref i)
inductive RpAll (C : Addr) (A : List Addr) (G : Hp) : List V → List D → Prop
  | nil : RpAll C A G [] []
  | cons {v : V} {vs : List V} {d : D} {ds : List D} : Rp C A G v d → RpAll C A G vs ds → RpAll C A G (v :: vs) (d :: ds)
end
section
variable {C : Addr} {A : List Addr} {G G' : Hp}
mutual
theorem Rp.mono (s : Same G G') : ∀ {d : D} {v : V}, Rp C A G v d → Rp C A G' v d
  | .non, _, h => by cases h; exact .non
  | .bl b, _, h => by cases h; exact .bl b
  | .int i, _, h => by cases h; exact .int i
  | .str x, _, h => by cases h; exact .str x
  | .tup ds, _, h => by cases h with | tup e r => exact .tup (s _ _ e) (RpAll.mono s r)
  | .lst ds, _, h => by cases h with | lst e r => exact .lst (s _ _ e) (RpAll.mono s r)
  | .num t e, _, h => by cases h with | num e1 r1 r2 => exact .num (s _ _ e1) (Rp.mono s r1) (Rp.mono s r2)
  | .ref i, _, h => by cases h with | ref e => exact .ref e
theorem RpAll.mono (s : Same G G') : ∀ {ds : List D} {vs : List V}, RpAll C A G vs ds → RpAll C A G' vs ds
  | [], _, h => by cases h; exact .nil
  | d :: ds, _, h => by cases h with | cons r1 r2 => exact .cons (Rp.mono s r1) (RpAll.mono s r2)
end
theorem RpAll.len : ∀ {ds : List D} {vs : List V}, RpAll C A G vs ds → vs.length = ds.length
  | [], _, h => by cases h; rfl
  | d :: ds, _, h => by cases h with | cons r1 r2 => rw [List.length_cons, List.length_cons, RpAll.len r2]
theorem RpAll.get : ∀ {ds : List D} {vs : List V} {i : Nat} {d : D}, RpAll C A G vs ds → ds[i]? = some d → ∃ v, vs[i]? = some v ∧ Rp C A G v d
  | [], _, _, _, h, e => by simp at e
  | d :: ds, _, 0, _, h, e => by cases h with | cons r1 r2 => simp at e; subst e; exact ⟨_, rfl, r1⟩
  | d :: ds, _, i + 1, _, h, e => by
    cases h with
    | cons r1 r2 =>
      obtain ⟨v, h1, h2⟩ := RpAll.get (i := i) r2 (by simpa using e)
      exact ⟨v, by simpa using h1, h2⟩
theorem RpAll.append : ∀ {ds es : List D} {vs us : List V}, RpAll C A G vs ds → RpAll C A G us es → RpAll C A G (vs ++ us) (ds ++ es)
  | [], _, _, _, h, k => by cases h; exact k
  | d :: ds, _, _, _, h, k => by cases h with | cons r1 r2 => exact .cons r1 (RpAll.append r2 k)
theorem RpAll.take (n : Nat) : ∀ {ds : List D} {vs : List V}, RpAll C A G vs ds → RpAll C A G (vs.take n) (ds.take n) := by
  induction n with
  | zero => intro _ _ _; exact .nil
  | succ n ih =>
    intro ds vs h
    cases h with
    | nil => exact .nil
    | cons r1 r2 => exact .cons r1 (ih r2)
theorem RpAll.drop (n : Nat) : ∀ {ds : List D} {vs : List V}, RpAll C A G vs ds → RpAll C A G (vs.drop n) (ds.drop n) := by
  induction n with
  | zero => intro _ _ h; exact h
  | succ n ih =>
    intro ds vs h
    cases h with
    | nil => exact .nil
    | cons r1 r2 => exact ih r2
theorem RpAll.reverse : ∀ {ds : List D} {vs : List V}, RpAll C A G vs ds → RpAll C A G vs.reverse ds.reverse
  | [], _, h => by cases h; exact .nil
  | d :: ds, _, h => by
    cases h with
    | cons r1 r2 => rw [List.reverse_cons, List.reverse_cons]; exact (RpAll.reverse r2).append (.cons r1 .nil)
theorem RpAll.set {v : V} {d : D} (r : Rp C A G v d) : ∀ {ds : List D} {vs : List V} (i : Nat), RpAll C A G vs ds → RpAll C A G (vs.set i v) (ds.set i d)
  | [], _, _, h => by cases h; exact .nil
  | e :: ds, _, 0, h => by cases h with | cons r1 r2 => exact .cons r r2
  | e :: ds, _, i + 1, h => by cases h with | cons r1 r2 => exact .cons r1 (RpAll.set r i r2)
theorem RpAll.rep {vs : List V} {ds : List D} (h : RpAll C A G vs ds) : ∀ k : Nat, RpAll C A G (List.replicate k vs).flatten (List.replicate k ds).flatten
  | 0 => .nil
  | k + 1 => by rw [List.replicate_succ, List.replicate_succ, List.flatten_cons, List.flatten_cons]; exact h.append (RpAll.rep h k)
theorem RpAll.dropLast {vs : List V} {ds : List D} (h : RpAll C A G vs ds) : RpAll C A G vs.dropLast ds.dropLast := by
  rw [List.dropLast_eq_take, List.dropLast_eq_take, h.len]; exact h.take _
end
/-- G: what stands for good within H. From (G, H) to (G', H'): nothing is lost, and what stands for good anew is new -/
structure Ext (G H G' H' : Hp) : Prop where
  g : Same G G'
  s : Same G' H'
  h : Same H H'
  f : ∀ b o, H b = some o → G b = none → G' b = none
theorem Ext.refl {G H : Hp} (s : Same G H) : Ext G H G H := ⟨fun _ _ h => h, s, fun _ _ h => h, fun _ _ _ h => h⟩
theorem Ext.trans {G H G1 H1 G2 H2 : Hp} (a : Ext G H G1 H1) (b : Ext G1 H1 G2 H2) : Ext G H G2 H2 :=
  ⟨a.g.trans b.g, b.s, a.h.trans b.h, fun c o h n => b.f c o (a.h c o h) (a.f c o h n)⟩
/-- a new object that stands for good -/
theorem Ext.new {G H : Hp} {p : Addr} (s : Same G H) (n : H p = none) (o : HO) : Ext G H (upd G p o) (upd H p o) := by
  have ng : G p = none := by
    cases e : G p with
    | none => rfl
    | some u => rw [s _ _ e] at n; cases n
  refine ⟨same_new ng o, same_upd s p o, same_new n o, fun b u h g => ?_⟩
  rw [upd_ne (ne_of_none h n)]; exact g
/-- a new object that may change -/
theorem Ext.lay {G H : Hp} {p : Addr} (s : Same G H) (n : H p = none) (o : HO) : Ext G H G (upd H p o) :=
  ⟨fun _ _ h => h, s.trans (same_new n o), same_new n o, fun _ _ _ g => g⟩
/-- where the cells stand -/
def Cel (A : List Addr) (G H : Hp) : Prop := ∀ a ∈ A, (∃ o, H a = some o) ∧ G a = none
theorem Cel.ext {A : List Addr} {G H G' H' : Hp} (c : Cel A G H) (x : Ext G H G' H') : Cel A G' H' := fun a ha => by
  obtain ⟨⟨o, h1⟩, h2⟩ := c a ha
  exact ⟨⟨o, x.h _ _ h1⟩, x.f _ _ h1 h2⟩
inductive Sl where
  | off | val (d : D) | own (ds : List D)
/-- what stands in the slots. own: a list of the def's own that may still grow -/
structure En (C : Addr) (A : List Addr) (H0 G H : Hp) (σ : L2.St) (ρ : List Sl) : Prop where
  len : σ.length = ρ.length
  val : ∀ (i : Nat) (d : D), ρ[i]? = some (Sl.val d) → ∃ v, σ[i]? = some (some v) ∧ Rp C A G v d
  own : ∀ (i : Nat) (ds : List D), ρ[i]? = some (Sl.own ds) → ∃ a vs, σ[i]? = some (some (.ref a)) ∧ H a = some (.lst vs) ∧ G a = none ∧ H0 a = none ∧ RpAll C A G vs ds ∧ a ∉ A
  sep : ∀ (i j : Nat) (di dj : List D) (a : Addr), ρ[i]? = some (Sl.own di) → ρ[j]? = some (Sl.own dj) → σ[i]? = some (some (.ref a)) → σ[j]? = some (some (.ref a)) → i = j
  cel : Cel A G H
theorem En.ext {C : Addr} {A : List Addr} {H0 G H G' H' : Hp} {σ : L2.St} {ρ : List Sl} (e : En C A H0 G H σ ρ) (x : Ext G H G' H') : En C A H0 G' H' σ ρ := by
  refine ⟨e.len, fun i d h => ?_, fun i ds h => ?_, e.sep, fun a ha => ?_⟩
  · obtain ⟨v, h1, h2⟩ := e.val i d h
    exact ⟨v, h1, h2.mono x.g⟩
  · obtain ⟨a, vs, h1, h2, h3, h4, h5, h6⟩ := e.own i ds h
    exact ⟨a, vs, h1, x.h _ _ h2, x.f _ _ h2 h3, h4, h5.mono x.g, h6⟩
  · obtain ⟨⟨o, h1⟩, h2⟩ := e.cel a ha
    exact ⟨⟨o, x.h _ _ h1⟩, x.f _ _ h1 h2⟩
theorem set_get {α : Type} {l : List α} {i j : Nat} {x y : α} (h : (l.set i x)[j]? = some y) : (j = i ∧ y = x ∧ i < l.length) ∨ (j ≠ i ∧ l[j]? = some y) := by
  by_cases e : j = i
  · subst e
    have hl : j < l.length := by
      have := (List.getElem?_eq_some_iff.mp h).1
      rwa [List.length_set] at this
    rw [List.getElem?_set_self hl] at h
    exact .inl ⟨rfl, (Option.some.inj h).symm, hl⟩
  · rw [List.getElem?_set_ne (Ne.symm e)] at h
    exact .inr ⟨e, h⟩
/-- a slot is stored -/
theorem En.put {C : Addr} {A : List Addr} {H0 G H : Hp} {σ : L2.St} {ρ : List Sl} {v : V} {d : D} (e : En C A H0 G H σ ρ) (i : Nat) (r : Rp C A G v d) : En C A H0 G H (σ.set i (some v)) (ρ.set i (Sl.val d)) := by
  refine ⟨by rw [List.length_set, List.length_set, e.len], fun j x h => ?_, fun j x h => ?_, fun j k x y a h1 h2 h3 h4 => ?_, e.cel⟩
  · rcases set_get h with ⟨rfl, h, hl⟩ | ⟨ne, h⟩
    · cases h; exact ⟨v, List.getElem?_set_self (by rw [e.len]; exact hl), r⟩
    · rw [List.getElem?_set_ne (Ne.symm ne)]; exact e.val j x h
  · rcases set_get h with ⟨rfl, h, hl⟩ | ⟨ne, h⟩
    · cases h
    · rw [List.getElem?_set_ne (Ne.symm ne)]; exact e.own j x h
  · rcases set_get h1 with ⟨rfl, h, hl⟩ | ⟨ne, h1⟩
    · cases h
    rcases set_get h2 with ⟨rfl, h, hl⟩ | ⟨ne2, h2⟩
    · cases h
    rw [List.getElem?_set_ne (Ne.symm ne)] at h3
    rw [List.getElem?_set_ne (Ne.symm ne2)] at h4
    exact e.sep j k x y a h1 h2 h3 h4
/-- a slot is stored with a new list of one's own -/
theorem En.putOwn {C : Addr} {A : List Addr} {H0 G H : Hp} {σ : L2.St} {ρ : List Sl} {a : Addr} {vs : List V} {ds : List D} (e : En C A H0 G H σ ρ) (i : Nat) (n : H a = none) (n0 : H0 a = none) (s : Same G H) (r : RpAll C A G vs ds) :
    En C A H0 G (upd H a (.lst vs)) (σ.set i (some (V.ref a))) (ρ.set i (Sl.own ds)) := by
  have e' := e.ext (Ext.lay s n (.lst vs))
  have ng : G a = none := by
    cases q : G a with
    | none => rfl
    | some u => rw [s _ _ q] at n; cases n
  have na : a ∉ A := fun z => by
    obtain ⟨⟨o, h1⟩, _⟩ := e.cel a z
    rw [n] at h1; cases h1
  have apart : ∀ j x, ρ[j]? = some (Sl.own x) → σ[j]? ≠ some (some (V.ref a)) := fun j x h z => by
    obtain ⟨b, us, h1, h2, _⟩ := e.own j x h
    rw [z] at h1; cases h1
    rw [n] at h2; cases h2
  refine ⟨by rw [List.length_set, List.length_set, e.len], fun j x h => ?_, fun j x h => ?_, fun j k x y b h1 h2 h3 h4 => ?_, e'.cel⟩
  · rcases set_get h with ⟨rfl, h, hl⟩ | ⟨ne, h⟩
    · cases h
    · rw [List.getElem?_set_ne (Ne.symm ne)]; exact e'.val j x h
  · rcases set_get h with ⟨rfl, h, hl⟩ | ⟨ne, h⟩
    · cases h; exact ⟨a, vs, List.getElem?_set_self (by rw [e.len]; exact hl), upd_same, ng, n0, r, na⟩
    · rw [List.getElem?_set_ne (Ne.symm ne)]; exact e'.own j x h
  · rcases set_get h1 with ⟨rfl, q1, hl1⟩ | ⟨ne1, q1⟩
    · rcases set_get h2 with ⟨rfl, q2, hl2⟩ | ⟨ne2, q2⟩
      · rfl
      · rw [List.getElem?_set_self (by rw [e.len]; exact hl1)] at h3
        cases h3
        rw [List.getElem?_set_ne (Ne.symm ne2)] at h4
        exact absurd h4 (apart k y q2)
    · rcases set_get h2 with ⟨rfl, q2, hl2⟩ | ⟨ne2, q2⟩
      · rw [List.getElem?_set_self (by rw [e.len]; exact hl2)] at h4
        cases h4
        rw [List.getElem?_set_ne (Ne.symm ne1)] at h3
        exact absurd h3 (apart j x q1)
      · rw [List.getElem?_set_ne (Ne.symm ne1)] at h3
        rw [List.getElem?_set_ne (Ne.symm ne2)] at h4
        exact e.sep j k x y b q1 q2 h3 h4
/-- one's own list at slot i changes -/
theorem En.grow {C : Addr} {A : List Addr} {H0 G H : Hp} {σ : L2.St} {ρ : List Sl} {a : Addr} {us : List V} {ds es : List D} (e : En C A H0 G H σ ρ) {i : Nat} (h : ρ[i]? = some (Sl.own ds)) (ha : σ[i]? = some (some (.ref a))) (r : RpAll C A G us es) :
    En C A H0 G (upd H a (.lst us)) σ (ρ.set i (Sl.own es)) := by
  obtain ⟨b, vs, h1, h2, h3, h4, h5, h6⟩ := e.own i ds h
  rw [ha] at h1; cases h1
  refine ⟨by rw [List.length_set, e.len], fun j x q => ?_, fun j x q => ?_, fun j k x y c q1 q2 q3 q4 => ?_, fun c hc => ?_⟩
  · rcases set_get q with ⟨rfl, z, hl⟩ | ⟨ne, q⟩
    · cases z
    · exact e.val j x q
  · rcases set_get q with ⟨rfl, z, hl⟩ | ⟨ne, q⟩
    · cases z; exact ⟨a, us, ha, upd_same, h3, h4, r, h6⟩
    · obtain ⟨c, ws, p1, p2, p3, p4, p5⟩ := e.own j x q
      have nc : c ≠ a := fun z => by subst z; exact ne (e.sep j i x ds c q h p1 ha)
      exact ⟨c, ws, p1, by rw [upd_ne nc]; exact p2, p3, p4, p5⟩
  · have own_of : ∀ {j : Nat} {x : List D}, (ρ.set i (Sl.own es))[j]? = some (Sl.own x) → ∃ x', ρ[j]? = some (Sl.own x') := fun {j x} q => by
      rcases set_get q with ⟨rfl, z, hl⟩ | ⟨ne, q⟩
      · exact ⟨_, h⟩
      · exact ⟨_, q⟩
    obtain ⟨x', q1⟩ := own_of q1
    obtain ⟨y', q2⟩ := own_of q2
    exact e.sep j k x' y' c q1 q2 q3 q4
  · obtain ⟨⟨o, k1⟩, k2⟩ := e.cel c hc
    exact ⟨⟨o, by rw [upd_ne (fun z => by subst z; exact h6 hc)]; exact k1⟩, k2⟩
/-- one's own list at slot i stands for good from here on -/
theorem En.freeze {C : Addr} {A : List Addr} {H0 G H : Hp} {σ : L2.St} {ρ : List Sl} {a : Addr} {vs : List V} {ds : List D} (e : En C A H0 G H σ ρ) (sm : Same G H) {i : Nat} (h : ρ[i]? = some (Sl.own ds)) (ha : σ[i]? = some (some (.ref a))) (hv : H a = some (.lst vs)) (r : RpAll C A G vs ds) :
    En C A H0 (upd G a (.lst vs)) H σ (ρ.set i (Sl.val (.lst ds))) ∧ Same G (upd G a (.lst vs)) ∧ Same (upd G a (.lst vs)) H := by
  obtain ⟨b, us, h1, h2, h3, h4, h5, h6⟩ := e.own i ds h
  rw [ha] at h1; cases h1
  have sg : Same G (upd G a (.lst vs)) := same_new h3 _
  refine ⟨⟨by rw [List.length_set, e.len], fun j x q => ?_, fun j x q => ?_, fun j k x y c q1 q2 q3 q4 => ?_, fun c hc => ?_⟩, sg, fun c o q => ?_⟩
  · rcases set_get q with ⟨rfl, z, hl⟩ | ⟨ne, q⟩
    · cases z; exact ⟨.ref a, ha, .lst upd_same (r.mono sg)⟩
    · obtain ⟨v, p1, p2⟩ := e.val j x q
      exact ⟨v, p1, p2.mono sg⟩
  · rcases set_get q with ⟨rfl, z, hl⟩ | ⟨ne, q⟩
    · cases z
    · obtain ⟨c, ws, p1, p2, p3, p4, p5, p6⟩ := e.own j x q
      have nc : c ≠ a := fun z => by subst z; exact ne (e.sep j i x ds c q h p1 ha)
      exact ⟨c, ws, p1, p2, by rw [upd_ne nc]; exact p3, p4, p5.mono sg, p6⟩
  · have own_of : ∀ {j : Nat} {x : List D}, (ρ.set i (Sl.val (.lst ds)))[j]? = some (Sl.own x) → ∃ x', ρ[j]? = some (Sl.own x') := fun {j x} q => by
      rcases set_get q with ⟨rfl, z, hl⟩ | ⟨ne, q⟩
      · cases z
      · exact ⟨_, q⟩
    obtain ⟨x', q1⟩ := own_of q1
    obtain ⟨y', q2⟩ := own_of q2
    exact e.sep j k x' y' c q1 q2 q3 q4
  · obtain ⟨k1, k2⟩ := e.cel c hc
    exact ⟨k1, by rw [upd_ne (fun z => by subst z; exact h6 hc)]; exact k2⟩
  · by_cases z : c = a
    · subst z; rw [upd_same] at q; cases q; exact hv
    · rw [upd_ne z] at q; exact sm c o q
/-- the slots of a comprehension's own names forgotten -/
def wipeD (ρ : List Sl) : List Nat → List Sl
  | [] => ρ
  | v :: vs => (wipeD ρ vs).set v Sl.off
theorem En.off {C : Addr} {A : List Addr} {H0 G H : Hp} {σ : L2.St} {ρ : List Sl} (e : En C A H0 G H σ ρ) (i : Nat) : En C A H0 G H (σ.set i none) (ρ.set i Sl.off) := by
  refine ⟨by rw [List.length_set, List.length_set, e.len], fun j x h => ?_, fun j x h => ?_, fun j k x y a h1 h2 h3 h4 => ?_, e.cel⟩
  · rcases set_get h with ⟨rfl, h, hl⟩ | ⟨ne, h⟩
    · cases h
    · rw [List.getElem?_set_ne (Ne.symm ne)]; exact e.val j x h
  · rcases set_get h with ⟨rfl, h, hl⟩ | ⟨ne, h⟩
    · cases h
    · rw [List.getElem?_set_ne (Ne.symm ne)]; exact e.own j x h
  · rcases set_get h1 with ⟨rfl, h, hl⟩ | ⟨ne, h1⟩
    · cases h
    rcases set_get h2 with ⟨rfl, h, hl⟩ | ⟨ne2, h2⟩
    · cases h
    rw [List.getElem?_set_ne (Ne.symm ne)] at h3
    rw [List.getElem?_set_ne (Ne.symm ne2)] at h4
    exact e.sep j k x y a h1 h2 h3 h4
theorem En.wipe {C : Addr} {A : List Addr} {H0 G H : Hp} {σ : L2.St} {ρ : List Sl} (e : En C A H0 G H σ ρ) : ∀ vs : List Nat, En C A H0 G H (wipe σ vs) (wipeD ρ vs)
  | [] => e
  | v :: vs => (En.wipe e vs).off v
/-! ### what is computed, as a reading -/
/-- den: the plain function; rep: how its value stands -/
def tX {α β : Type} (C : Addr) (rep : List Addr → Hp → β → α → Prop) (den : List Sl → Option α) : L2.St → Hp → (β → Hp → Prop) → Prop := fun σ H Q =>
  ∃ A H0 G ρ d, En C A H0 G H σ ρ ∧ Same G H ∧ den ρ = some d ∧ ∀ G' H' v, Ext G H G' H' → rep A G' v d → Q v H'
def eqR {α : Type} : List Addr → Hp → α → α → Prop := fun _ _ v d => v = d
abbrev tD (C : Addr) (den : List Sl → Option D) : TE := tX C (Rp C) den
abbrev tA (C : Addr) (den : List Sl → Option (List D)) : TA := tX C (RpAll C) den
abbrev tB (C : Addr) (den : List Sl → Option Bool) : TT := tX C eqR den
abbrev tP (C : Addr) (den : List Sl → Option (Option Int)) : TO := tX C eqR den
inductive Out where
  | nx (ρ : List Sl) | rt (d : D) | bk (ρ : List Sl) | ct (ρ : List Sl)
def Fin (C : Addr) (A : List Addr) (G0 H0 Gs : Hp) (E : Ends) : Out → Prop
  | .nx ρ => ∀ G H σ, Same Gs G → Ext G0 H0 G H → En C A H0 G H σ ρ → E.nx σ H
  | .rt d => ∀ G H v, Ext G0 H0 G H → Rp C A G v d → E.rt v H
  | .bk ρ => ∀ G H σ, Same Gs G → Ext G0 H0 G H → En C A H0 G H σ ρ → E.bk σ H
  | .ct ρ => ∀ G H σ, Same Gs G → Ext G0 H0 G H → En C A H0 G H σ ρ → E.ct σ H
theorem Fin.mono {C : Addr} {A : List Addr} {G0 H0 Gs Gt : Hp} {E : Ends} (s : Same Gs Gt) : ∀ {o : Out}, Fin C A G0 H0 Gs E o → Fin C A G0 H0 Gt E o
  | .nx _, h => fun G H σ s2 => h G H σ (s.trans s2)
  | .rt _, h => h
  | .bk _, h => fun G H σ s2 => h G H σ (s.trans s2)
  | .ct _, h => fun G H σ s2 => h G H σ (s.trans s2)
def tS (C : Addr) (den : List Sl → Option Out) : TS := fun E σ H => ∃ A G0 H0 G ρ o, Ext G0 H0 G H ∧ En C A H0 G H σ ρ ∧ den ρ = some o ∧ Fin C A G0 H0 G E o
/-- a target; is: the slots that it stores -/
def tG (C : Addr) (is : List Nat) (den : D → List Sl → Option (List Sl)) : TG := fun v σ H Q =>
  ∃ A H0 G ρ d ρ', En C A H0 G H σ ρ ∧ Same G H ∧ Rp C A G v d ∧ den d ρ = some ρ' ∧ ∀ σ' G' H', Ext G H G' H' → En C A H0 G' H' σ' ρ' → (∀ vs : List Nat, (∀ i ∈ is, i ∈ vs) → wipe σ' vs = wipe σ vs) → Q σ' H'
def tGs (C : Addr) (is : List Nat) (den : List D → List Sl → Option (List Sl)) : TGs := fun vs σ H Q =>
  ∃ A H0 G ρ ds ρ', En C A H0 G H σ ρ ∧ Same G H ∧ RpAll C A G vs ds ∧ den ds ρ = some ρ' ∧ ∀ σ' G' H', Ext G H G' H' → En C A H0 G' H' σ' ρ' → (∀ vs : List Nat, (∀ i ∈ is, i ∈ vs) → wipe σ' vs = wipe σ vs) → Q σ' H'
/-- an iterator that gives ds -/
def Wk (C : Addr) (A : List Addr) (J : It) (G : Hp) (ds : List D) : Prop := ∀ i G2 H2, Same G G2 → Same G2 H2 → (i = ds.length → J.stop i H2) ∧
  (∀ d, ds[i]? = some d → J.go i H2 ∧ ∀ x H3, J.yld i H2 x H3 → ∃ G3, Ext G2 H2 G3 H3 ∧ Rp C A G3 x d)
def tI (C : Addr) (den : List Sl → Option (List D)) : TI := fun σ H R =>
  ∃ A H0 G ρ ds, En C A H0 G H σ ρ ∧ Same G H ∧ den ρ = some ds ∧ ∀ J G' H', Ext G H G' H' → Wk C A J G' ds → R J H'
/-! ### a weaker reading -/
section
variable {X : Cx}
theorem pe_to {e : Expr} {t t' : TE} (h : PE X e t) (k : ∀ σ H Q, t' σ H Q → t σ H Q) : PE X e t' := ⟨fun pins s σ H Q I hw => h.run pins s σ H Q I (k _ _ _ hw)⟩
theorem pt_to {e : Expr} {t t' : TT} (h : PT X e t) (k : ∀ σ H Q, t' σ H Q → t σ H Q) : PT X e t' := ⟨fun pins s σ H Q I hw => h.run pins s σ H Q I (k _ _ _ hw)⟩
theorem pw_to {e : Expr} {t t' : TT} (h : PW X e t) (k : ∀ σ H Q, t' σ H Q → t σ H Q) : PW X e t' := ⟨fun wh pins s σ H Q I hw => h.run wh pins s σ H Q I (k _ _ _ hw)⟩
theorem pa_to {es : List Expr} {t t' : TA} (h : PA X es t) (k : ∀ σ H Q, t' σ H Q → t σ H Q) : PA X es t' := ⟨fun pos pins s σ H Q I hw => h.run pos pins s σ H Q I (k _ _ _ hw)⟩
theorem po_to {e : Option Expr} {t t' : TO} (h : PO X e t) (k : ∀ σ H Q, t' σ H Q → t σ H Q) : PO X e t' := ⟨fun pins s σ H Q I hw => h.run pins s σ H Q I (k _ _ _ hw)⟩
theorem ps_to {st : Stmt} {t t' : TS} (h : PS X st t) (k : ∀ D σ H, t' D σ H → t D σ H) : PS X st t' := ⟨fun pins s σ H D I hw => h.run pins s σ H D I (k _ _ _ hw)⟩
theorem pss_to {sts : List Stmt} {t t' : TS} (h : PSs X sts t) (k : ∀ D σ H, t' D σ H → t D σ H) : PSs X sts t' := ⟨fun pins s σ H D I hw => h.run pins s σ H D I (k _ _ _ hw)⟩
theorem pg_to {tg : Expr} {t t' : TG} (h : PG X tg t) (k : ∀ v σ H Q, t' v σ H Q → t v σ H Q) : PG X tg t' := ⟨fun pins s σ H v u Q I r hw => h.run pins s σ H v u Q I r (k _ _ _ _ hw)⟩
theorem pgs_to {ts : List Expr} {t t' : TGs} (h : PGs X ts t) (k : ∀ v σ H Q, t' v σ H Q → t v σ H Q) : PGs X ts t' := ⟨fun pins s σ H vs us Q I r hw => h.run pins s σ H vs us Q I r (k _ _ _ _ hw)⟩
theorem pi_to {tg it : Expr} {t t' : TI} (h : PI X tg it t) (k : ∀ σ H R, t' σ H R → t σ H R) : PI X tg it t' := ⟨fun pins s σ H R I hw => h.run pins s σ H R I (k _ _ _ hw)⟩
end
end DN

set_option maxHeartbeats 4000000
/-! tuple * 0 -/
namespace KG
open PySem PySem.Spec PyProof.Rows L2
theorem tuple_mul0 (l : Addr) (items : Array Value) (n : Nat) (dd : Option Addr) (sl : Array (Option Value)) (u : Tok) (c0 : (decide ((0 : Int) < -(2 ^ 63)) || decide ((0 : Int) ≥ 2 ^ 63)) = false) (c1 : (items.isEmpty || (0 : Int) == 1) = false) (c2 : (decide ((0 : Int) ≤ 0) || items.isEmpty) = true) (hsz : (#[] : Array Value).size ≤ sizeLine) :
    Meets (Builtin.«tuple.__mul__» ⟨[.ref l, .int 0 u], []⟩) (fun _ R s => s.heap.get? l = some { cls := .type "tuple", dict := dd, data := .seq items n, slots := sl } ∧
      R (.ok (.ret (Value.ref s.heap.objs.size))) { s with heap := s.heap.push { cls := Value.type "tuple", data := Data.seq #[] }, toks := s.toks }) :=
  .of_wp fun prog w A R s h => by
    obtain ⟨hp0, g0, d0, tk0, os0⟩ := s
    obtain ⟨hl, h⟩ := h
    have f1 := AutoSeq1.idx_int
    wp_walk using wpAny_loadPart' hl
    repeat (first | (refine wpAny_ite_false (decide_eq_false (by rw [c0]; exact Bool.false_ne_true)) ?_; wp_walk using wpAny_loadPart' hl) | (refine wpAny_ite_false (decide_eq_false (by rw [c1]; exact Bool.false_ne_true)) ?_; wp_walk using wpAny_loadPart' hl) | (refine wpAny_ite_true (decide_eq_true c2) ?_; wp_walk using wpAny_loadPart' hl) | (refine wpAny_ite_false (decide_eq_false (Nat.not_lt.mpr hsz)) ?_; wp_walk using wpAny_loadPart' hl))
    exact ⟨_, rfl, h⟩
def rRep0 (K : PySem.W.Frag) : R2 := fun x y H Q => ∃ l xs, x = .ref l ∧ y = .int 0 ∧ SqT K H l xs ∧ xs ≠ [] ∧ ∀ p, H p = none → Q (.ref p) (upd H p (.tup []))
theorem op_rep0 {X : Cx} : OpR X (binaryOp .Mult) (rRep0 X.K) := by
  intro pins s σ H x y v u Q I rx ry h
  obtain ⟨l, xs, rfl, rfl, hT, hne, q⟩ := h
  cases rx
  obtain ⟨t, rfl⟩ := ry
  obtain ⟨its, r, ⟨⟨cl0, dd, dt0, sl⟩, ho, hc, n, hd⟩, hsz0⟩ := I.tuple hT
  simp only at hc hd
  subst hc hd
  have hLen : its.length = xs.length := r.length.symm
  have hi : its.toArray.isEmpty = false := by
    cases its with
    | nil => exact absurd (List.eq_nil_of_length_eq_zero hLen.symm) hne
    | cons a b => rfl
  refine wpAny_binaryOp_repeat_ref (T := "tuple") (U := "int") (by decide) ⟨_, ho, rfl⟩ (fun s' => typeIs_int s' 0 t) noFill_tuple_mul F.fills_int_mul F.slot_int_rmul repeat_tuple F.slot_int_index.lookup
    (call_meets F.slot_int_rmul (typeIs_int s 0 t) F.entry_int_rmul (F.args_int_rmul_2 _ _) (int_rmul_tuple 0 t l its.toArray n dd sl)
      ⟨ho, rfl, ⟨_, ho, rfl⟩, call_meets F.slot_tuple_mul ⟨_, ho, rfl⟩ F.entry_tuple_mul (F.args_tuple_mul_2 _ _) (tuple_mul0 l its.toArray n dd sl t (by decide) (by rw [hi]; decide) (by rw [hi]; decide) (by show 0 ≤ sizeLine; decide)) ⟨ho, ?_⟩⟩)
  refine ⟨.ref s.heap.objs.size, _, I.laid (t' := s.toks) (o := .tup []) (fun b ob q => Heap.get?_push_of_some _ q) (Nat.le_refl _) ?_, rfl, q _ (I.hok.fresh (Nat.le_refl _))⟩
  exact ⟨by show 0 ≤ sizeLine; decide, [], .nil, IsTup.new _ _⟩
end KG

/-! enumerate of a tuple -/
namespace KG
open PySem PySem.Spec PyProof.Rows L2
set_option maxHeartbeats 1000000 in
theorem enum_new1 {v : Value} {o : Obj} {Hq : Heap → Prop} (B : Begins v o Hq) : Meets (Builtin.«enumerate.__new__» ⟨[.type "enumerate", v], []⟩) (fun _ R s => Hq s.heap ∧ R (.ok (.ret (.ref (s.heap.push o).objs.size))) { s with heap := (s.heap.push o).push { cls := .type "enumerate", data := .fields #[.none, .bool false, .ref s.heap.objs.size, rawInt 0, .none, .none] } }) :=
  .of_wp fun prog w A R s h => by
    obtain ⟨hp, g, d, tk, os⟩ := s
    obtain ⟨h1, h⟩ := h
    have isub := sub_enumerate
    have q1 : ∀ {A' : Around} {E : Value → Shared → Prop} {Q : Value → Shared → Prop}, Q (.ref hp.objs.size) ⟨hp.push o, g, d, tk, os⟩ → wpAny (model prog w) A' (pyIter v) Q E ⟨hp, g, d, tk, os⟩ := fun q => B.iter prog w _ _ ⟨hp, g, d, tk, os⟩ _ h1 q
    wp_walk using q1
    refine wpAny_stack_any fun st => wpAny_pure ?_
    split
    · rename_i c _ _ _ _ _
      cases (c == Value.type "enumerate") <;> (wp_walk using q1; exact ⟨_, rfl, h⟩)
    · wp_walk using q1; exact ⟨_, rfl, h⟩
theorem call_enum1 {prog : Program} {w : World} {A : Around} {E : Value → Shared → Prop} {s : Shared} {v : Value} {o : Obj} {Hq : Heap → Prop} {Q : Value → Shared → Prop} (B : Begins v o Hq) (h1 : Hq s.heap)
    (h : ∀ h', IsEnum h' (s.heap.objs.size + 1) s.heap.objs.size 0 .none → h'.get? s.heap.objs.size = some o → (∀ b u, s.heap.get? b = some u → h'.get? b = some u) → Q (.ref (s.heap.objs.size + 1)) { s with heap := h' }) : wpAny (model prog w) A (call (.type "enumerate") [v]) Q E s := by
  refine callType_new F.called_enumerate (by decide) (F.typeCall_enumerate_1 _) (F.newCall_enumerate_1 _) (fun obj => F.args_object_init_2 obj _) F.entry_enumerate_new (enum_new1 B) ⟨h1, ?_⟩
  have hz : (s.heap.push o).objs.size = s.heap.objs.size + 1 := Heap.size_push ..
  show _ ∧ _
  rw [hz]
  have he : IsEnum ((s.heap.push o).push { cls := .type "enumerate", data := .fields #[.none, .bool false, .ref s.heap.objs.size, rawInt 0, .none, .none] }) (s.heap.objs.size + 1) s.heap.objs.size 0 .none := by
    have e := Heap.get?_push_size (s.heap.push o) (o := { cls := .type "enumerate", data := .fields #[.none, .bool false, .ref s.heap.objs.size, rawInt 0, .none, .none] }) rfl
    rwa [hz] at e
  exact ⟨⟨_, he, rfl⟩, h _ he (Heap.get?_push_of_some _ (Heap.get?_push_size _ B.free)) fun b u x => Heap.get?_push_of_some _ (Heap.get?_push_of_some _ x)⟩
/-- the tuple at a as it stands at each turn, each item in a new pair with its place -/
def IteT (K : PySem.W.Frag) (a : Addr) : It where
  go := fun i H => ∃ xs x, SqT K H a xs ∧ xs[i]? = some x
  yld := fun i H v H' => ∃ T x, v = .ref T ∧ H T = none ∧ H' = upd H T (.tup [.int (i : Nat), x]) ∧ ∀ us, SqT K H a us → us[i]? = some x
  stop := fun i H => ∃ xs, SqT K H a xs ∧ i = xs.length
section
variable {P : Program} {w : World} {K : PySem.W.Frag} {es : List Expr} {n : Nat} {tp : Pos}
theorem turn_enumT {a e t : Addr} (ne : e ≠ t) (na : a ≠ t) (ae : a ≠ e) : Turn P w K (.Tuple es n tp) (IteT K a) [e, t] e (fun k h => (∃ old, IsEnum h e t (k : Int) old) ∧ h.IsTupleIter t a k) := by
  refine { mem := by simp, obj := ?obj, keep := ?keep, item := ?item, done := ?done, self := fun _ _ _ _ _ st h => let ⟨⟨_, q⟩, _⟩ := st; wpAny_pyIter_enum q h }
  case obj =>
    rintro k h ⟨⟨old, s1⟩, ⟨o1, p1, _, p2⟩⟩ c hc
    rcases List.mem_cons.mp hc with rfl | hc
    · exact ⟨_, s1, fun v q => nomatch q⟩
    · rw [List.mem_singleton.mp hc]
      exact ⟨o1, p1, fun v q => by rw [p2] at q; cases q⟩
  case keep =>
    rintro k h h' ⟨⟨old, s1⟩, s2⟩ kp
    exact ⟨⟨old, kp e (by simp) _ s1⟩, s2.at fun _ q => kp t (by simp) _ q⟩
  case item =>
    rintro X rfl rfl rfl hc k pins s σ H E I hf ⟨⟨old, s1⟩, s2⟩ ⟨xs, x, qx, gx⟩
    obtain ⟨its, r1, p1, _⟩ := I.tuple qx
    obtain ⟨w1, f1, rw1⟩ := r1.get gx
    have b1 : k < its.toArray.size := by rw [List.size_toArray]; exact (List.getElem?_eq_some_iff.mp f1).1
    have hh : X.A.in1.handled = none := I.ok.hd hc
    have elt := Heap.lt_size s1
    have hef : e ∉ [t, a] := fun hm => by
      rcases List.mem_cons.mp hm with q | q
      · exact ne q
      · exact ae (List.mem_singleton.mp q).symm
    refine wpAny_pyNext_enum_itemD (Draws.tuple hh t a na its.toArray) s1 ⟨s2, p1⟩ b1 ne hef fun x1 h' tk hP ho hs' hT hsz hk => ?_
    have ex1 : x1 = w1 := by
      have : its[k]? = some x1 := by simpa using hP
      rw [f1] at this; exact (Option.some.inj this).symm
    subst ex1
    refine ⟨_, rfl, wpAny_letOwnedTupleGo_enum (s := { s with heap := h', toks := tk + 1 }) ho fun h2 he2 sb => ?_⟩
    have g2 : ∀ c ob, c ≠ e → h'.get? c = some ob → h2.get? c = some ob := fun c ob nc q => (sb.2 c nc).trans q
    have T2 := g2 _ _ (Nat.ne_of_gt elt) hT
    have nw : ObjOk X.prog X.w (upd H s.heap.objs.size (.tup [.int (k : Nat), x])) h2 s.heap.objs.size (.tup [.int (k : Nat), x]) := ⟨(by show 2 ≤ sizeLine; decide), [.int k tk, x1], .cons ⟨_, rfl⟩ (.cons rw1 .nil), ⟨_, T2, rfl, _, rfl⟩⟩
    have I1 : Inv X pins σ (upd H s.heap.objs.size (.tup [.int (k : Nat), x])) { s with heap := h2, toks := tk + 1 } := I.turnedNew (ch := [e, t]) (fun c ob hb q => by
      have n1 : c ≠ e := fun z => hb (by simp [z])
      have n2 : c ≠ t := fun z => hb (by simp [z])
      exact g2 _ _ n1 (hk c ob n1 n2 q)) hf (Nat.le_refl _) nw
    refine ⟨.ref s.heap.objs.size, _, I1, rfl, ⟨_, x, rfl, I.hok.fresh (Nat.le_refl _), rfl, fun us hu => by rw [I.tuple_inj hu qx]; exact gx⟩, ⟨⟨x1, ?_⟩, hs'.1.at fun _ q => g2 _ _ (Ne.symm ne) q⟩, fun c hcm => ?_⟩
    · have e1 : ((k + 1 : Nat) : Int) = (k : Int) + 1 := by omega
      rw [e1]; exact he2
    · have lt : c < s.heap.objs.size := by
        rcases List.mem_cons.mp hcm with rfl | hcm
        · exact elt
        · rw [List.mem_singleton.mp hcm]
          obtain ⟨_, q, _⟩ := s2; exact Heap.lt_size q
      rw [upd_ne (Nat.ne_of_lt lt)]
      exact (hf c hcm).1
  case done =>
    rintro X rfl rfl rfl hc k pins s σ H E I hf ⟨⟨old, s1⟩, s2⟩ ⟨xs, qx, l1⟩
    obtain ⟨its, r1, p1, _⟩ := I.tuple qx
    have n1 : its.toArray.size = xs.length := by rw [List.size_toArray]; exact r1.length.symm
    have hh : X.A.in1.handled = none := I.ok.hd hc
    have s2' : s.heap.IsTupleIter t a its.toArray.size := by rw [n1, ← l1]; exact s2
    refine wpAny_pyNext_enum_endD (Draws.tuple hh t a na its.toArray) s1 ⟨s2', p1⟩ fun h' kp => ⟨rfl, I.turnedL (ch := [e, t]) (fun c ob hb q => ?_) hf⟩
    exact kp c ob (fun z => hb (by simp [z])) q
end
def iEnumT (K : PySem.W.Frag) (ta : TA) : TI := fun σ H R => ta σ H fun vs H1 => ∃ a xs, vs = [.ref a] ∧ SqT K H1 a xs ∧ R (IteT K a) H1
theorem pi_enumT {X : Cx} {e : Expr} {ta : TA} {p pos tp : Pos} {es : List Expr} {n : Nat} (hg : Gl X "enumerate") (hm : X.mg "enumerate" = none) (ha : PA X [e] ta) (hs : starEach [e] X.env = [(false, eval e X.env)] := by rfl) : PI X (.Tuple es n tp) (.Call (.Name "enumerate" p) [e] [] pos) (iEnumT X.K ta) := by
  constructor
  intro pins s σ H R I h
  refine Call_ (ld_blt I hg hm boot_enumerate (PyProof.Rows.callWith_type1 (thn (ha.run pos pins s σ H _ I h) ?_) hs rfl))
  rintro us s1 ⟨vs, H1, I1, r1, a, xs, rfl, qx, q⟩
  obtain ⟨v1, rfl, rv1⟩ := vals1 r1
  cases rv1
  obtain ⟨its, _, p1, _⟩ := I1.tuple qx
  have alt : a < s1.heap.objs.size := by obtain ⟨_, g1, _⟩ := id p1; exact Heap.lt_size g1
  refine call_enum1 (begins_tuple a its.toArray) p1 fun h' he hit kp => wpAny_pyIter_enum he ?_
  refine ⟨s1.heap.objs.size + 1, [s1.heap.objs.size + 1, s1.heap.objs.size], _, _, H1, rfl, I1.kept (t' := s1.toks) kp, turn_enumT (Nat.succ_ne_self _) (Nat.ne_of_lt alt) (Nat.ne_of_lt (Nat.lt_succ_of_lt alt)), ⟨⟨.none, he⟩, ⟨_, hit, rfl, rfl⟩⟩, fun c hc => ?_, q⟩
  have le : s1.heap.objs.size ≤ c := by
    rcases List.mem_cons.mp hc with rfl | hc
    · exact Nat.le_add_right _ _
    · rw [List.mem_singleton.mp hc]; exact Nat.le_refl _
  exact I1.fpOk le (I1.hok.fresh le)
/-- a loop over enumerate of a tuple -/
theorem for_enumT {K : PySem.W.Frag} {a : Addr} {xs : List V} {g : TG} {tb : TS} {D : Ends} {σ : L2.St} {H : Hp} (Pv : Nat → L2.St → Hp → Prop) (h0 : Pv 0 σ H) (hq : ∀ i σ H, Pv i σ H → SqT K H a xs)
    (hs : ∀ (i : Nat) (x : V) (T : Addr) (σ : L2.St) (H : Hp), xs[i]? = some x → Pv i σ H → H T = none → g (.ref T) σ (upd H T (.tup [.int (i : Nat), x])) fun σ2 H2 => tb { D with nx := Pv (i + 1), ct := Pv (i + 1), bk := D.nx } σ2 H2) (hd : ∀ σ H, Pv xs.length σ H → D.nx σ H) :
    ∃ W : Nat → Nat → L2.St → Hp → Prop, (∃ m, W 0 m σ H) ∧ ∀ i m σ H, W i m σ H → ((IteT K a).stop i H ∧ D.nx σ H) ∨ ((IteT K a).go i H ∧ ∃ N : L2.St → Hp → Prop, (∀ σ' H', N σ' H' → ∃ m', m' < m ∧ W (i + 1) m' σ' H') ∧ ∀ v H', (IteT K a).yld i H v H' → g v σ H' fun σ2 H2 => tb { D with nx := N, ct := N, bk := D.nx } σ2 H2) := by
  refine ⟨fun i m σ H => m = xs.length - i ∧ i ≤ xs.length ∧ Pv i σ H, ⟨_, rfl, Nat.zero_le _, h0⟩, ?_⟩
  rintro i m σ H ⟨rfl, hi, p⟩
  have qx := hq i σ H p
  by_cases hlt : i < xs.length
  · refine .inr ⟨⟨xs, xs[i], qx, List.getElem?_eq_getElem hlt⟩, Pv (i + 1), fun σ' H' p' => ⟨_, by omega, rfl, hlt, p'⟩, ?_⟩
    rintro v H' ⟨T, x', rfl, hT, rfl, f1⟩
    exact hs i x' T σ H (f1 xs qx) p hT
  · obtain rfl : i = xs.length := by omega
    exact .inl ⟨⟨xs, qx, rfl⟩, hd σ H p⟩
/-- a loop over enumerate of a list -/
theorem for_enumL {K : PySem.W.Frag} {a : Addr} {xs : List V} {g : TG} {tb : TS} {D : Ends} {σ : L2.St} {H : Hp} (Pv : Nat → L2.St → Hp → Prop) (h0 : Pv 0 σ H) (hq : ∀ i σ H, Pv i σ H → SqL K H a xs)
    (hs : ∀ (i : Nat) (x : V) (T : Addr) (σ : L2.St) (H : Hp), xs[i]? = some x → Pv i σ H → H T = none → g (.ref T) σ (upd H T (.tup [.int (i : Nat), x])) fun σ2 H2 => tb { D with nx := Pv (i + 1), ct := Pv (i + 1), bk := D.nx } σ2 H2) (hd : ∀ σ H, Pv xs.length σ H → D.nx σ H) :
    ∃ W : Nat → Nat → L2.St → Hp → Prop, (∃ m, W 0 m σ H) ∧ ∀ i m σ H, W i m σ H → ((Ite K a).stop i H ∧ D.nx σ H) ∨ ((Ite K a).go i H ∧ ∃ N : L2.St → Hp → Prop, (∀ σ' H', N σ' H' → ∃ m', m' < m ∧ W (i + 1) m' σ' H') ∧ ∀ v H', (Ite K a).yld i H v H' → g v σ H' fun σ2 H2 => tb { D with nx := N, ct := N, bk := D.nx } σ2 H2) := by
  refine ⟨fun i m σ H => m = xs.length - i ∧ i ≤ xs.length ∧ Pv i σ H, ⟨_, rfl, Nat.zero_le _, h0⟩, ?_⟩
  rintro i m σ H ⟨rfl, hi, p⟩
  have qx := hq i σ H p
  by_cases hlt : i < xs.length
  · refine .inr ⟨⟨xs, xs[i], qx, List.getElem?_eq_getElem hlt⟩, Pv (i + 1), fun σ' H' p' => ⟨_, by omega, rfl, hlt, p'⟩, ?_⟩
    rintro v H' ⟨T, x', rfl, hT, rfl, f1⟩
    exact hs i x' T σ H (f1 xs qx) p hT
  · obtain rfl : i = xs.length := by omega
    exact .inl ⟨⟨xs, qx, Nat.le_refl _⟩, hd σ H p⟩
theorem iteT' {c : Bool} {A B : Prop} (e : c = true) (h : A) : if c = true then A else B := by rw [if_pos e]; exact h
theorem iteF' {c : Bool} {A B : Prop} (e : c = false) (h : B) : if c = true then A else B := by rw [if_neg (by rw [e]; decide)]; exact h
end KG

set_option maxHeartbeats 1000000
/-! expressions by what they compute -/
namespace DN
open PySem PySem.Spec PyProof.Rows L2 KG
section
variable {X : Cx} {C : Addr} {A : List Addr}
theorem obind {α β : Type} {o : Option α} {f : α → Option β} {b : β} (h : o.bind f = some b) : ∃ a, o = some a ∧ f a = some b := by
  cases o with
  | none => cases h
  | some a => exact ⟨a, rfl, h⟩
/-! ### names, constants -/
def dV (i : Nat) : List Sl → Option D := fun ρ => match ρ[i]? with
  | some (.val d) => some d
  | _ => none
def dK (d : D) : List Sl → Option D := fun _ => some d
theorem d_var {i : Nat} : ∀ σ H Q, tD C (dV i) σ H Q → tVar i σ H Q := fun σ H Q ⟨A, H0, G, ρ, d, e, sm, hd, k⟩ => by
  unfold dV at hd
  split at hd
  · rename_i d' hi
    cases hd
    obtain ⟨v, h1, h2⟩ := e.val i _ hi
    exact ⟨v, h1, k G H v (.refl sm) h2⟩
  · cases hd
theorem dn_var {i : Nat} {x : Str} {pos : Pos} (hN : X.N[i]? = some x := by rfl) (hv : Vis X.env.scope x := by first | exact .inl rfl | exact .inr (.inl rfl) | exact .inr (.inr rfl)) (hd : (x == ("__debug__" : Str)) = false := by decide) (hcd : (x == ("__classdict__" : Str)) = false := by decide) : PE X (.Name x pos) (tD C (dV i)) :=
  pe_to (pe_var hN hv hd hcd) d_var
theorem d_const {v : V} {d : D} (r : ∀ A G, Rp C A G v d) : ∀ σ H Q, tD C (dK d) σ H Q → tC v σ H Q := fun σ H Q ⟨A, H0, G, ρ, d', e, sm, hd, k⟩ => by
  cases hd
  exact k G H v (.refl sm) (r A G)
theorem dn_int {i : Int} {j pos} : PE X (.Constant (.int i) j pos) (tD C (dK (.int i))) := pe_to pe_int (d_const fun _ _ => .int i)
theorem dn_bl {b : Bool} {j pos} : PE X (.Constant (.bool b) j pos) (tD C (dK (.bl b))) := pe_to pe_bl (d_const fun _ _ => .bl b)
theorem dn_non {j pos} : PE X (.Constant .none j pos) (tD C (dK .non)) := pe_to pe_non (d_const fun _ _ => .non)
theorem dn_str {x : Str} {j pos} : PE X (.Constant (.str x) j pos) (tD C (dK (.str x))) := pe_to pe_str (d_const fun _ _ => .str x)
/-! ### two and one -/
def d2 (f : D → D → Option D) (da db : List Sl → Option D) : List Sl → Option D := fun ρ => (da ρ).bind fun a => (db ρ).bind fun b => f a b
def d1 (f : D → Option D) (da : List Sl → Option D) : List Sl → Option D := fun ρ => (da ρ).bind f
/-- what a rule by values must give for a plain function -/
def Is2 (C : Addr) (r : R2) (f : D → D → Option D) : Prop := ∀ (A : List Addr) (G H : Hp) (x y : V) (a b d : D) (Q : VK), Same G H → Rp C A G x a → Rp C A G y b → f a b = some d → (∀ G' H' v, Ext G H G' H' → Rp C A G' v d → Q v H') → r x y H Q
def Is1 (C : Addr) (r : V → Hp → VK → Prop) (f : D → Option D) : Prop := ∀ (A : List Addr) (G H : Hp) (x : V) (a d : D) (Q : VK), Same G H → Rp C A G x a → f a = some d → (∀ G' H' v, Ext G H G' H' → Rp C A G' v d → Q v H') → r x H Q
theorem is2 {r : R2} {f : D → D → Option D} (h : Is2 C r f) (da db : List Sl → Option D) : ∀ σ H Q, tD C (d2 f da db) σ H Q → tOp r (tD C da) (tD C db) σ H Q := fun σ H Q ⟨A, H0, G, ρ, d, e, sm, hd, k⟩ => by
  obtain ⟨a, ha, hd⟩ := obind hd
  obtain ⟨b, hb, hd⟩ := obind hd
  exact ⟨A, H0, G, ρ, a, e, sm, ha, fun G1 H1 x x1 r1 => ⟨A, H0, G1, ρ, b, e.ext x1, x1.s, hb, fun G2 H2 y x2 r2 =>
    h A G2 H2 x y a b d Q x2.s (r1.mono x2.g) r2 hd fun G' H' v x3 r3 => k G' H' v ((x1.trans x2).trans x3) r3⟩⟩
theorem is1 {r : V → Hp → VK → Prop} {f : D → Option D} (h : Is1 C r f) (da : List Sl → Option D) : ∀ σ H Q, tD C (d1 f da) σ H Q → tUn r (tD C da) σ H Q := fun σ H Q ⟨A, H0, G, ρ, d, e, sm, hd, k⟩ => by
  obtain ⟨a, ha, hd⟩ := obind hd
  exact ⟨A, H0, G, ρ, a, e, sm, ha, fun G1 H1 x x1 r1 => h A G1 H1 x a d Q x1.s r1 hd fun G' H' v x3 r3 => k G' H' v (x1.trans x3) r3⟩
theorem dn_op {op : Operator} {r : R2} {f : D → D → Option D} {a b : Expr} {da db : List Sl → Option D} {pos : Pos} (h : Is2 C r f) (ho : OpR X (binaryOp op) r) (ha : PE X a (tD C da)) (hb : PE X b (tD C db)) : PE X (.BinOp a op b pos) (tD C (d2 f da db)) :=
  pe_to (pe_op ho ha hb) (is2 h da db)
theorem dn_un {op : UnaryOp} {r : V → Hp → VK → Prop} {f : D → Option D} {a : Expr} {da : List Sl → Option D} {pos : Pos} (h : Is1 C r f) (ho : UnR X (unaryOp op) r) (ha : PE X a (tD C da)) : PE X (.UnaryOp op a pos) (tD C (d1 f da)) :=
  pe_to (pe_un ho ha) (is1 h da)
theorem dn_cmp {op : CmpOp} {r : R2} {f : D → D → Option D} {a b : Expr} {da db : List Sl → Option D} {pos : Pos} (h : Is2 C r f) (ho : OpR X (compareOp op) r) (ha : PE X a (tD C da)) (hb : PE X b (tD C db)) (hm : behindInMarks op b = false) : PE X (.Compare a [op] [b] pos) (tD C (d2 f da db)) :=
  pe_to (pe_cmpR ho ha hb hm) (is2 h da db)
theorem dn_ix {r : R2} {f : D → D → Option D} {a b : Expr} {da db : List Sl → Option D} {pos : Pos} (h : Is2 C r f) (ho : IxR X r) (ha : PE X a (tD C da)) (hb : PE X b (tD C db)) (hs : PlainIx b) : PE X (.Subscript a b pos) (tD C (d2 f da db)) :=
  pe_to (pe_ix ho ha hb hs) (is2 h da db)
/-- sizes that are kept to -/
def szB : Nat := 100000
theorem sz_ok {n : Nat} (h : decide (n ≤ szB) = true) : n ≤ sizeLine := Nat.le_trans (of_decide_eq_true h) (by rw [sizeLine_eq]; decide)
theorem sz_lt {n : Nat} (h : decide (n ≤ szB) = true) : n < sizeLine := Nat.lt_of_le_of_lt (of_decide_eq_true h) (by rw [sizeLine_eq]; decide)
/-! + -/
def fAdd : D → D → Option D
  | .int a, .int b => some (.int (a + b))
  | .tup a, .tup b => if decide (a.length + b.length ≤ szB) then some (.tup (a ++ b)) else none
  | .lst a, .lst b => if decide (a.length + b.length ≤ szB) then some (.lst (a ++ b)) else none
  | _, _ => none
def rAddA (K : PySem.W.Frag) : R2 := fun x y H Q => rI0 (fun i j => .int (i + j)) x y H Q ∨ rCatA K x y H Q ∨ rCat x y H Q
theorem op_addA : OpR X (binaryOp .Add) (rAddA X.K) := op_add.or (op_catA.or op_cat)
theorem is_add {K : PySem.W.Frag} : Is2 C (rAddA K) fAdd := fun A G H x y a b d Q sm ra rb hd k => by
  unfold fAdd at hd
  split at hd
  · cases ra; cases rb; cases hd
    exact .inl ⟨_, _, rfl, rfl, k G H _ (.refl sm) (.int _)⟩
  · split at hd
    · rename_i hz
      cases hd
      cases ra with
      | tup ea ra =>
        cases rb with
        | tup eb rb =>
          have l1 := ra.len
          have l2 := rb.len
          refine .inr (.inl ⟨_, _, _, _, rfl, rfl, .of (sm _ _ ea), .of (sm _ _ eb), by rw [l1, l2]; exact sz_ok hz, fun z => ?_, fun n z => ?_, fun n m p np => ?_⟩)
          · subst z
            cases ra
            exact k G H _ (.refl sm) (.tup eb rb)
          · subst z
            cases rb
            refine k G H _ (.refl sm) ?_
            rw [List.append_nil]
            exact .tup ea ra
          · exact k _ _ _ (.new sm np _) (.tup upd_same ((ra.append rb).mono (same_new (by cases q : G p with | none => rfl | some u => rw [sm _ _ q] at np; cases np) _)))
    · cases hd
  · split at hd
    · rename_i hz
      cases hd
      cases ra with
      | lst ea ra =>
        cases rb with
        | lst eb rb =>
          have l1 := ra.len
          have l2 := rb.len
          refine .inr (.inr ⟨_, _, _, _, rfl, rfl, sm _ _ ea, sm _ _ eb, by rw [l1, l2]; exact sz_ok hz, fun p np => ?_⟩)
          exact k _ _ _ (.new sm np _) (.lst upd_same ((ra.append rb).mono (same_new (by cases q : G p with | none => rfl | some u => rw [sm _ _ q] at np; cases np) _)))
    · cases hd
  · cases hd
theorem none_of {G H : Hp} {p : Addr} (sm : Same G H) (np : H p = none) : G p = none := by
  cases q : G p with
  | none => rfl
  | some u => rw [sm _ _ q] at np; cases np
/-! ints -/
def fI2 (c : Int → Int → Bool) (f : Int → Int → Int) : D → D → Option D
  | .int a, .int b => if c a b then some (.int (f a b)) else none
  | _, _ => none
theorem is_i2 {c : Int → Int → Bool} {P : Int → Int → Prop} {f : Int → Int → Int} (hc : ∀ i j, c i j = true → P i j) : Is2 C (rI P fun i j => .int (f i j)) (fI2 c f) := fun A G H x y a b d Q sm ra rb hd k => by
  unfold fI2 at hd
  split at hd
  · split at hd
    · rename_i h
      cases ra; cases rb; cases hd
      exact ⟨_, _, rfl, rfl, hc _ _ h, k G H _ (.refl sm) (.int _)⟩
    · cases hd
  · cases hd
def fI20 (f : Int → Int → Int) : D → D → Option D
  | .int a, .int b => some (.int (f a b))
  | _, _ => none
theorem is_i20 {f : Int → Int → Int} : Is2 C (rI0 fun i j => .int (f i j)) (fI20 f) := fun A G H x y a b d Q sm ra rb hd k => by
  unfold fI20 at hd
  split at hd
  · cases ra; cases rb; cases hd
    exact ⟨_, _, rfl, rfl, k G H _ (.refl sm) (.int _)⟩
  · cases hd
def fB20 (f : Int → Int → Bool) : D → D → Option D
  | .int a, .int b => some (.bl (f a b))
  | _, _ => none
theorem is_b20 {f : Int → Int → Bool} : Is2 C (rI0 fun i j => .bl (f i j)) (fB20 f) := fun A G H x y a b d Q sm ra rb hd k => by
  unfold fB20 at hd
  split at hd
  · cases ra; cases rb; cases hd
    exact ⟨_, _, rfl, rfl, k G H _ (.refl sm) (.bl _)⟩
  · cases hd
def fI1 (f : Int → Int) : D → Option D
  | .int a => some (.int (f a))
  | _ => none
theorem is_u {f : Int → Int} : Is1 C (rU fun i => .int (f i)) (fI1 f) := fun A G H x a d Q sm ra hd k => by
  unfold fI1 at hd
  split at hd
  · cases ra; cases hd
    exact ⟨_, rfl, k G H _ (.refl sm) (.int _)⟩
  · cases hd
def cMul (a b : Int) : Bool := decide (a.natAbs.log2 + b.natAbs.log2 < 1000000)
def cDiv (_ b : Int) : Bool := decide (b ≠ 0) && decide (b.natAbs.log2 < 9000)
def cShl (a b : Int) : Bool := decide (0 ≤ b) && decide (b ≤ 100000) && decide (a.natAbs.log2 < 1000000)
def cShr (_ b : Int) : Bool := decide (0 ≤ b)
def cMod (_ b : Int) : Bool := decide (b ≠ 0)
theorem cDiv_ok (i j : Int) (h : cDiv i j = true) : CDivZ i j := by
  unfold cDiv at h
  rw [Bool.and_eq_true] at h
  exact ⟨of_decide_eq_true h.1, of_decide_eq_true h.2⟩
theorem cShl_ok (i j : Int) (h : cShl i j = true) : CShl i j := by
  unfold cShl at h
  simp only [Bool.and_eq_true, decide_eq_true_eq] at h
  obtain ⟨⟨h1, h2⟩, h3⟩ := h
  have b : Builtin.Int.intBits i ≤ i.natAbs.log2 + 1 := by
    unfold Builtin.Int.intBits
    split <;> omega
  have e : (2 : Int) ^ 27 = 134217728 := by decide
  refine ⟨h1, ?_⟩
  rw [e]
  omega
abbrev fSub := fI20 (· - ·)
abbrev fDiv := fI2 cDiv Int.fdiv
abbrev fMod := fI2 cMod Int.fmod
abbrev fShl := fI2 cShl (fun i j => i * 2 ^ j.toNat)
abbrev fShr := fI2 cShr (fun i j => i / 2 ^ j.toNat)
abbrev fAnd := fI20 Builtin.bitAnd
abbrev fOr := fI20 Builtin.bitOr
section
variable {a b : Expr} {da db : List Sl → Option D} {pos : Pos}
theorem dn_add (ha : PE X a (tD C da)) (hb : PE X b (tD C db)) : PE X (.BinOp a .Add b pos) (tD C (d2 fAdd da db)) := dn_op is_add op_addA ha hb
theorem dn_sub (ha : PE X a (tD C da)) (hb : PE X b (tD C db)) : PE X (.BinOp a .Sub b pos) (tD C (d2 fSub da db)) := dn_op is_i20 op_sub ha hb
theorem dn_div (ha : PE X a (tD C da)) (hb : PE X b (tD C db)) : PE X (.BinOp a .FloorDiv b pos) (tD C (d2 fDiv da db)) := dn_op (is_i2 cDiv_ok) op_fdivZ ha hb
theorem dn_mod (ha : PE X a (tD C da)) (hb : PE X b (tD C db)) : PE X (.BinOp a .Mod b pos) (tD C (d2 fMod da db)) := dn_op (is_i2 fun _ _ h => of_decide_eq_true h) op_modN ha hb
theorem dn_shl (ha : PE X a (tD C da)) (hb : PE X b (tD C db)) : PE X (.BinOp a .LShift b pos) (tD C (d2 fShl da db)) := dn_op (is_i2 cShl_ok) op_shlW ha hb
theorem dn_shr (ha : PE X a (tD C da)) (hb : PE X b (tD C db)) : PE X (.BinOp a .RShift b pos) (tD C (d2 fShr da db)) := dn_op (is_i2 fun _ _ h => of_decide_eq_true h) op_shr ha hb
theorem dn_and (ha : PE X a (tD C da)) (hb : PE X b (tD C db)) : PE X (.BinOp a .BitAnd b pos) (tD C (d2 fAnd da db)) := dn_op is_i20 op_and ha hb
theorem dn_or (ha : PE X a (tD C da)) (hb : PE X b (tD C db)) : PE X (.BinOp a .BitOr b pos) (tD C (d2 fOr da db)) := dn_op is_i20 op_or ha hb
theorem dn_neg (ha : PE X a (tD C da)) : PE X (.UnaryOp .USub a pos) (tD C (d1 (fI1 fun i => -i) da)) := dn_un is_u un_neg ha
theorem dn_lt (ha : PE X a (tD C da)) (hb : PE X b (tD C db)) : PE X (.Compare a [.Lt] [b] pos) (tD C (d2 (fB20 fun i j => decide (i < j)) da db)) := dn_cmp is_b20 op_lt ha hb (nomark _)
theorem dn_le (ha : PE X a (tD C da)) (hb : PE X b (tD C db)) : PE X (.Compare a [.LtE] [b] pos) (tD C (d2 (fB20 fun i j => decide (i ≤ j)) da db)) := dn_cmp is_b20 op_le ha hb (nomark _)
theorem dn_gt (ha : PE X a (tD C da)) (hb : PE X b (tD C db)) : PE X (.Compare a [.Gt] [b] pos) (tD C (d2 (fB20 fun i j => decide (j < i)) da db)) := dn_cmp is_b20 op_gt ha hb (nomark _)
theorem dn_ge (ha : PE X a (tD C da)) (hb : PE X b (tD C db)) : PE X (.Compare a [.GtE] [b] pos) (tD C (d2 (fB20 fun i j => decide (j ≤ i)) da db)) := dn_cmp is_b20 op_ge ha hb (nomark _)
end
/-! == : of any data but Numbers -/
mutual
def toP : D → PyData
  | .non => .none
  | .bl b => .bool b
  | .int i => .int i
  | .str x => .str x
  | .tup ds => .tuple (toPs ds)
  | .lst ds => .list (toPs ds)
  | .num _ _ => .none
  | .ref _ => .none
def toPs : List D → List PyData
  | [] => []
  | d :: ds => toP d :: toPs ds
end
mutual
def noNum : D → Bool
  | .tup ds => noNums ds
  | .lst ds => noNums ds
  | .num _ _ => false
  | .ref _ => false
  | _ => true
def noNums : List D → Bool
  | [] => true
  | d :: ds => noNum d && noNums ds
end
mutual
theorem Rp.dp {K : PySem.W.Frag} {G H : Hp} (sm : Same G H) : ∀ {d : D} {v : V}, Rp C A G v d → noNum d = true → Dp K H v (toP d)
  | .non, _, h, _ => by cases h; exact .non
  | .bl b, _, h, _ => by cases h; exact .bl b
  | .int i, _, h, _ => by cases h; exact .int i
  | .str x, _, h, _ => by cases h; exact .str x
  | .tup ds, _, h, n => by cases h with | tup e r => exact .tup (.of (sm _ _ e)) (RpAll.dp sm r (by simpa [noNum] using n))
  | .lst ds, _, h, n => by cases h with | lst e r => exact .lst (.of (sm _ _ e)) (RpAll.dp sm r (by simpa [noNum] using n))
  | .num t e, _, h, n => by simp [noNum] at n
  | .ref i, _, h, n => by simp [noNum] at n
theorem RpAll.dp {K : PySem.W.Frag} {G H : Hp} (sm : Same G H) : ∀ {ds : List D} {vs : List V}, RpAll C A G vs ds → noNums ds = true → DpAll K H vs (toPs ds)
  | [], _, h, _ => by cases h; exact .nil
  | d :: ds, _, h, n => by
    cases h with
    | cons r1 r2 =>
      have n' : noNum d = true ∧ noNums ds = true := by simpa [noNums] using n
      exact .cons (Rp.dp sm r1 n'.1) (RpAll.dp sm r2 n'.2)
end
def fEq : D → D → Option D
  | .int a, .int b => some (.bl (decide (a = b)))
  | a, b => if noNum a && noNum b && SeqAt.shaped (toP a) && SeqAt.shaped (toP b) then some (.bl (PyData.eqv (toP a) (toP b))) else none
def fNe : D → D → Option D
  | .int a, .int b => some (.bl (!decide (a = b)))
  | a, b => if noNum a && noNum b && SeqAt.shaped (toP a) && SeqAt.shaped (toP b) then some (.bl (!PyData.eqv (toP a) (toP b))) else none
def rEqA (K : PySem.W.Frag) : R2 := fun x y H Q => rEq x y H Q ∨ rEqD K x y H Q
def rNeA (K : PySem.W.Frag) : R2 := fun x y H Q => rNe x y H Q ∨ rNeD K x y H Q
theorem is_eq {K : PySem.W.Frag} : Is2 C (rEqA K) fEq := fun A G H x y a b d Q sm ra rb hd k => by
  unfold fEq at hd
  split at hd
  · cases ra; cases rb; cases hd
    refine .inl ⟨rfl, k G H _ (.refl sm) ?_⟩
    rename_i i j
    have e : decide (V.int i = V.int j) = decide (i = j) := decide_eq_decide.mpr ⟨fun h => V.int.inj h, fun h => by rw [h]⟩
    rw [e]
    exact .bl _
  · split at hd
    · rename_i h
      simp only [Bool.and_eq_true] at h
      cases hd
      exact .inr ⟨_, _, ra.dp sm h.1.1.1, rb.dp sm h.1.1.2, h.1.2, h.2, k G H _ (.refl sm) (.bl _)⟩
    · cases hd
theorem is_ne {K : PySem.W.Frag} : Is2 C (rNeA K) fNe := fun A G H x y a b d Q sm ra rb hd k => by
  unfold fNe at hd
  split at hd
  · cases ra; cases rb; cases hd
    refine .inl ⟨rfl, k G H _ (.refl sm) ?_⟩
    rename_i i j
    have e : decide (V.int i = V.int j) = decide (i = j) := decide_eq_decide.mpr ⟨fun h => V.int.inj h, fun h => by rw [h]⟩
    rw [e]
    exact .bl _
  · split at hd
    · rename_i h
      simp only [Bool.and_eq_true] at h
      cases hd
      exact .inr ⟨_, _, ra.dp sm h.1.1.1, rb.dp sm h.1.1.2, h.1.2, h.2, k G H _ (.refl sm) (.bl _)⟩
    · cases hd
section
variable {a b : Expr} {da db : List Sl → Option D} {pos : Pos}
theorem dn_eq (hu : X.A.units + 64 < cLine) (ha : PE X a (tD C da)) (hb : PE X b (tD C db)) : PE X (.Compare a [.Eq] [b] pos) (tD C (d2 fEq da db)) := dn_cmp (r := rEqA X.K) is_eq (op_eq.or (op_eqD hu)) ha hb (nomark _)
theorem dn_ne (hu : X.A.units + 64 < cLine) (ha : PE X a (tD C da)) (hb : PE X b (tD C db)) : PE X (.Compare a [.NotEq] [b] pos) (tD C (d2 fNe da db)) := dn_cmp (r := rNeA X.K) is_ne (op_ne.or (op_neD hu)) ha hb (nomark _)
end
/-! is None -/
def fIsN : D → D → Option D
  | .non, .non => some (.bl true)
  | .num _ _, .non => some (.bl false)
  | .tup _, .non => some (.bl false)
  | .lst _, .non => some (.bl false)
  | .int _, .non => some (.bl false)
  | .str _, .non => some (.bl false)
  | .bl _, .non => some (.bl false)
  | _, _ => none
def dNot : D → Option D
  | .bl b => some (.bl (!b))
  | _ => none
def fNotN (a b : D) : Option D := (fIsN a b).bind dNot
theorem isn_ok {G : Hp} {x y : V} {a b d : D} (ra : Rp C A G x a) (rb : Rp C A G y b) (hd : fIsN a b = some d) : y = .non ∧ d = .bl (decide (x = .non)) := by
  unfold fIsN at hd
  split at hd <;> first | (cases ra; cases rb; cases hd; exact ⟨rfl, rfl⟩) | cases hd
theorem dn_isN {a : Expr} {j pos pos'} {da : List Sl → Option D} (ha : PE X a (tD C da)) : PE X (.Compare a [.Is] [.Constant .none j pos'] pos) (tD C (d2 fIsN da (dK .non))) :=
  dn_cmp (r := fun x y H Q => y = .non ∧ Q (.bl (decide (x = .non))) H) (fun A G H x y a b d Q sm ra rb hd k => by
    obtain ⟨h1, h2⟩ := isn_ok ra rb hd
    subst h2
    exact ⟨h1, k G H _ (.refl sm) (.bl _)⟩) op_isN ha dn_non (nomark _)
theorem dn_notN {a : Expr} {j pos pos'} {da : List Sl → Option D} (ha : PE X a (tD C da)) : PE X (.Compare a [.IsNot] [.Constant .none j pos'] pos) (tD C (d2 fNotN da (dK .non))) :=
  dn_cmp (r := fun x y H Q => y = .non ∧ Q (.bl (!decide (x = .non))) H) (fun A G H x y a b d Q sm ra rb hd k => by
    obtain ⟨c, h0, hd⟩ := obind hd
    obtain ⟨h1, h2⟩ := isn_ok ra rb h0
    subst h2
    cases hd
    exact ⟨h1, k G H _ (.refl sm) (.bl _)⟩) op_notN ha dn_non (nomark _)
/-! t[i] -/
def fIx : D → D → Option D
  | .tup ds, .int i => atI ds i
  | .lst ds, .int i => atI ds i
  | _, _ => none
theorem at_rp {G : Hp} {vs : List V} {ds : List D} {i : Int} {d : D} (r : RpAll C A G vs ds) (h : atI ds i = some d) : ∃ v, atI vs i = some v ∧ Rp C A G v d := by
  unfold atI at h ⊢
  rw [r.len]
  obtain ⟨j, h1, h2⟩ := obind h
  rw [h1]
  exact r.get h2
theorem is_ix {K : PySem.W.Frag} : Is2 C (rIx K) fIx := fun A G H x y a b d Q sm ra rb hd k => by
  unfold fIx at hd
  split at hd
  · cases rb
    cases ra with
    | tup e r =>
      obtain ⟨v, h1, h2⟩ := at_rp r hd
      exact .inr (.inl ⟨_, _, _, v, rfl, rfl, .of (sm _ _ e), h1, k G H v (.refl sm) h2⟩)
  · cases rb
    cases ra with
    | lst e r =>
      obtain ⟨v, h1, h2⟩ := at_rp r hd
      exact .inl ⟨_, _, _, v, rfl, rfl, .of (sm _ _ e), h1, k G H v (.refl sm) h2⟩
  · cases hd
theorem dn_sub_ix {a b : Expr} {da db : List Sl → Option D} {pos : Pos} (ha : PE X a (tD C da)) (hb : PE X b (tD C db)) (hs : PlainIx b) : PE X (.Subscript a b pos) (tD C (d2 fIx da db)) := dn_ix is_ix ix_seq ha hb hs
end
end DN

set_option maxHeartbeats 1000000
/-! displays, slices, tests, calls, comprehensions by what they compute -/
namespace DN
open PySem PySem.Spec PyProof.Rows L2 KG
section
variable {X : Cx} {C : Addr} {A : List Addr} {pos : Pos}
/-! ### arguments, displays -/
def a0 : List Sl → Option (List D) := fun _ => some []
def ac (d : List Sl → Option D) (ds : List Sl → Option (List D)) : List Sl → Option (List D) := fun ρ => (d ρ).bind fun x => (ds ρ).bind fun xs => some (x :: xs)
theorem da_nil : PA X [] (tA C a0) := pa_to pa_nil fun σ H Q ⟨A, H0, G, ρ, d, e, sm, hd, k⟩ => by cases hd; exact k G H [] (.refl sm) .nil
theorem da_cons {e : Expr} {es : List Expr} {d : List Sl → Option D} {ds : List Sl → Option (List D)} (ha : PE X e (tD C d)) (hr : PA X es (tA C ds)) (hs : starEach (e :: es) X.env = (false, eval e X.env) :: starEach es X.env := by rfl) : PA X (e :: es) (tA C (ac d ds)) :=
  pa_to (pa_cons ha hr hs) fun σ H Q ⟨A, H0, G, ρ, z, en, sm, hd, k⟩ => by
    obtain ⟨a, h1, hd⟩ := obind hd
    obtain ⟨as, h2, hd⟩ := obind hd
    cases hd
    exact ⟨A, H0, G, ρ, a, en, sm, h1, fun G1 H1 x x1 r1 => ⟨A, H0, G1, ρ, as, en.ext x1, x1.s, h2, fun G2 H2 xs x2 r2 => k G2 H2 _ (x1.trans x2) (.cons (r1.mono x2.g) r2)⟩⟩
def dTup (das : List Sl → Option (List D)) : List Sl → Option D := fun ρ => (das ρ).bind fun ds => if decide (ds.length ≤ szB) then some (.tup ds) else none
def dLst (das : List Sl → Option (List D)) : List Sl → Option D := fun ρ => (das ρ).bind fun ds => if decide (ds.length ≤ szB) then some (.lst ds) else none
theorem oif {c : Bool} {α : Type} {a b : α} (h : (if c then some a else none) = some b) : c = true ∧ a = b := by
  cases c with
  | true => exact ⟨rfl, by simpa using h⟩
  | false => simp at h
theorem dn_tup {es : List Expr} {x1} {das : List Sl → Option (List D)} (h : PA X es (tA C das)) : PE X (.Tuple es x1 pos) (tD C (dTup das)) :=
  pe_to (pe_tup h) fun σ H Q ⟨A, H0, G, ρ, d, e, sm, hd, k⟩ => by
    obtain ⟨ds, h1, hd⟩ := obind hd
    obtain ⟨hz, rfl⟩ := oif hd
    exact ⟨A, H0, G, ρ, ds, e, sm, h1, fun G1 H1 xs x1 r1 => ⟨by rw [r1.len]; exact sz_ok hz, fun p np => k _ _ _ (x1.trans (.new x1.s np _)) (.tup upd_same (r1.mono (same_new (none_of x1.s np) _)))⟩⟩
theorem dn_lst {es : List Expr} {das : List Sl → Option (List D)} (h : PA X es (tA C das)) : PE X (.List es pos) (tD C (dLst das)) :=
  pe_to (pe_lst h) fun σ H Q ⟨A, H0, G, ρ, d, e, sm, hd, k⟩ => by
    obtain ⟨ds, h1, hd⟩ := obind hd
    obtain ⟨hz, rfl⟩ := oif hd
    exact ⟨A, H0, G, ρ, ds, e, sm, h1, fun G1 H1 xs x1 r1 => ⟨by rw [r1.len]; exact sz_ok hz, fun p np => k _ _ _ (x1.trans (.new x1.s np _)) (.lst upd_same (r1.mono (same_new (none_of x1.s np) _)))⟩⟩
/-! ### slices -/
def p0 : List Sl → Option (Option Int) := fun _ => some none
def asI : D → Option (Option Int)
  | .int i => some (some i)
  | _ => none
def p1 (d : List Sl → Option D) : List Sl → Option (Option Int) := fun ρ => (d ρ).bind asI
theorem dp_none : PO X none (tP C p0) := po_to po_none fun σ H Q ⟨A, H0, G, ρ, d, e, sm, hd, k⟩ => by cases hd; exact k G H none (.refl sm) rfl
theorem dp_some {e : Expr} {d : List Sl → Option D} (h : PE X e (tD C d)) : PO X (some e) (tP C (p1 d)) := po_to (po_some h) fun σ H Q ⟨A, H0, G, ρ, z, en, sm, hd, k⟩ => by
  obtain ⟨a, h1, hd⟩ := obind hd
  refine ⟨A, H0, G, ρ, a, en, sm, h1, fun G1 H1 x x1 r1 => ?_⟩
  unfold asI at hd
  split at hd
  · cases hd
    cases r1
    exact ⟨_, rfl, k G1 H1 _ x1 rfl⟩
  · cases hd
def cutD {α : Type} (xs : List α) (lo hi : Option Int) : List α := (xs.drop (HT.sIx xs.length 0 lo)).take (HT.sIx xs.length xs.length hi - HT.sIx xs.length 0 lo)
def fSl : D → Option Int → Option Int → Option D
  | .tup ds, lo, hi => some (.tup (cutD ds lo hi))
  | .lst ds, lo, hi => some (.lst (cutD ds lo hi))
  | _, _, _ => none
def dSl (de : List Sl → Option D) (dl dh : List Sl → Option (Option Int)) : List Sl → Option D := fun ρ => (de ρ).bind fun x => (dl ρ).bind fun l => (dh ρ).bind fun u => fSl x l u
theorem cut_rp {G : Hp} {vs : List V} {ds : List D} (r : RpAll C A G vs ds) (lo hi : Option Int) : RpAll C A G (cutV vs lo hi) (cutD ds lo hi) := by
  unfold cutV cutD
  rw [r.len]
  exact (r.drop _).take _
def rSlB (K : PySem.W.Frag) : V → Option Int → Option Int → Hp → VK → Prop := fun x lo hi H Q => rSlA K x lo hi H Q ∨ rSlL K x lo hi H Q
theorem dn_slice {e : Expr} {lo hi : Option Expr} {p2 : Pos} {de : List Sl → Option D} {dl dh : List Sl → Option (Option Int)} (he : PE X e (tD C de)) (hl : PO X lo (tP C dl)) (hi' : PO X hi (tP C dh)) : PE X (.Subscript e (.Slice lo hi none p2) pos) (tD C (dSl de dl dh)) :=
  pe_to (pe_slice (r := rSlB X.K) (sl_tupA.or sl_list) he hl hi') fun σ H Q ⟨A, H0, G, ρ, z, en, sm, hd, k⟩ => by
    obtain ⟨a, h1, hd⟩ := obind hd
    obtain ⟨l, h2, hd⟩ := obind hd
    obtain ⟨u, h3, hd⟩ := obind hd
    refine ⟨A, H0, G, ρ, a, en, sm, h1, fun G1 H1 x x1 r1 => ⟨A, H0, G1, ρ, l, en.ext x1, x1.s, h2, fun G2 H2 l' x2 el => ⟨A, H0, G2, ρ, u, (en.ext x1).ext x2, x2.s, h3, fun G3 H3 u' x3 eu => ?_⟩⟩⟩
    subst el
    subst eu
    have r3 := (r1.mono x2.g).mono x3.g
    unfold fSl at hd
    split at hd
    · cases hd
      cases r3 with
      | tup ea ra =>
        rename_i ds _ _ _ vs
        refine .inl ⟨_, _, rfl, .of (x3.s _ _ ea), fun z => k _ _ _ ((x1.trans x2).trans x3) ?_, fun _ p np => k _ _ _ (((x1.trans x2).trans x3).trans (.new x3.s np _)) (.tup upd_same ((cut_rp ra l' u').mono (same_new (none_of x3.s np) _)))⟩
        rw [ra.len] at z
        have hc : cutD ds l' u' = ds := by
          unfold cutD
          rw [z.1, z.2, List.drop_zero, Nat.sub_zero, List.take_length]
        rw [hc]
        exact .tup ea ra
    · cases hd
      cases r3 with
      | lst ea ra =>
        refine .inr ⟨_, _, rfl, .of (x3.s _ _ ea), fun p np => k _ _ _ (((x1.trans x2).trans x3).trans (.new x3.s np _)) (.lst upd_same ((cut_rp ra l' u').mono (same_new (none_of x3.s np) _)))⟩
    · cases hd
/-! ### tests -/
def asB : D → Option Bool
  | .bl b => some b
  | _ => none
def dAsB (d : List Sl → Option D) : List Sl → Option Bool := fun ρ => (d ρ).bind asB
theorem asB_ok {d : D} {b : Bool} (h : asB d = some b) : d = .bl b := by
  unfold asB at h
  split at h
  · cases h; rfl
  · cases h
theorem test_of {t : TE} {den : List Sl → Option D} (h : ∀ σ H Q, tD C den σ H Q → t σ H Q) : ∀ σ H Q, tB C (dAsB den) σ H Q → tTest t σ H Q := fun σ H Q ⟨A, H0, G, ρ, b, en, sm, hd, k⟩ => by
  obtain ⟨d, h1, hd⟩ := obind hd
  have := asB_ok hd
  subst this
  exact h σ H _ ⟨A, H0, G, ρ, .bl b, en, sm, h1, fun G1 H1 v x1 r1 => by cases r1; exact ⟨b, rfl, k G1 H1 b x1 rfl⟩⟩
theorem dt_cmp {op : CmpOp} {r : R2} {f : D → D → Option D} {a b : Expr} {da db : List Sl → Option D} (h : Is2 C r f) (ho : OpR X (compareOp op) r) (ha : PE X a (tD C da)) (hb : PE X b (tD C db)) (hm : behindInMarks op b = false) : PT X (.Compare a [op] [b] pos) (tB C (dAsB (d2 f da db))) :=
  pt_to (pt_cmpR ho ha hb hm) (test_of (is2 h da db))
section
variable {a b : Expr} {da db : List Sl → Option D}
theorem dt_eq (hu : X.A.units + 64 < cLine) (ha : PE X a (tD C da)) (hb : PE X b (tD C db)) : PT X (.Compare a [.Eq] [b] pos) (tB C (dAsB (d2 fEq da db))) := dt_cmp (r := rEqA X.K) is_eq (op_eq.or (op_eqD hu)) ha hb (nomark _)
theorem dt_ne (hu : X.A.units + 64 < cLine) (ha : PE X a (tD C da)) (hb : PE X b (tD C db)) : PT X (.Compare a [.NotEq] [b] pos) (tB C (dAsB (d2 fNe da db))) := dt_cmp (r := rNeA X.K) is_ne (op_ne.or (op_neD hu)) ha hb (nomark _)
theorem dt_lt (ha : PE X a (tD C da)) (hb : PE X b (tD C db)) : PT X (.Compare a [.Lt] [b] pos) (tB C (dAsB (d2 (fB20 fun i j => decide (i < j)) da db))) := dt_cmp is_b20 op_lt ha hb (nomark _)
theorem dt_le (ha : PE X a (tD C da)) (hb : PE X b (tD C db)) : PT X (.Compare a [.LtE] [b] pos) (tB C (dAsB (d2 (fB20 fun i j => decide (i ≤ j)) da db))) := dt_cmp is_b20 op_le ha hb (nomark _)
theorem dt_gt (ha : PE X a (tD C da)) (hb : PE X b (tD C db)) : PT X (.Compare a [.Gt] [b] pos) (tB C (dAsB (d2 (fB20 fun i j => decide (j < i)) da db))) := dt_cmp is_b20 op_gt ha hb (nomark _)
theorem dt_ge (ha : PE X a (tD C da)) (hb : PE X b (tD C db)) : PT X (.Compare a [.GtE] [b] pos) (tB C (dAsB (d2 (fB20 fun i j => decide (j ≤ i)) da db))) := dt_cmp is_b20 op_ge ha hb (nomark _)
theorem dt_isN {j pos'} (ha : PE X a (tD C da)) : PT X (.Compare a [.Is] [.Constant .none j pos'] pos) (tB C (dAsB (d2 fIsN da (dK .non)))) :=
  dt_cmp (r := fun x y H Q => y = .non ∧ Q (.bl (decide (x = .non))) H) (fun A G H x y a b d Q sm ra rb hd k => by
    obtain ⟨h1, h2⟩ := isn_ok ra rb hd
    subst h2
    exact ⟨h1, k G H _ (.refl sm) (.bl _)⟩) op_isN ha dn_non (nomark _)
theorem dt_notN {j pos'} (ha : PE X a (tD C da)) : PT X (.Compare a [.IsNot] [.Constant .none j pos'] pos) (tB C (dAsB (d2 fNotN da (dK .non)))) :=
  dt_cmp (r := fun x y H Q => y = .non ∧ Q (.bl (!decide (x = .non))) H) (fun A G H x y a b d Q sm ra rb hd k => by
    obtain ⟨c, h0, hd⟩ := obind hd
    obtain ⟨h1, h2⟩ := isn_ok ra rb h0
    subst h2
    cases hd
    exact ⟨h1, k G H _ (.refl sm) (.bl _)⟩) op_notN ha dn_non (nomark _)
end
/-- the truth of a value -/
def fTru : D → Option Bool
  | .non => some false
  | .bl b => some b
  | .int i => some (i != 0)
  | .tup ds => some (!ds.isEmpty)
  | .lst ds => some (!ds.isEmpty)
  | _ => none
theorem emp_rp {G : Hp} {vs : List V} {ds : List D} (r : RpAll C A G vs ds) : vs.isEmpty = ds.isEmpty := by
  cases r <;> rfl
theorem tru_rp {K : PySem.W.Frag} {G H : Hp} {x : V} {d : D} {b : Bool} (sm : Same G H) (r : Rp C A G x d) (h : fTru d = some b) : TruV K x H b := by
  unfold fTru at h
  split at h
  · cases h; cases r; rfl
  · cases h; cases r; rfl
  · cases h; cases r; rfl
  · cases h
    cases r with
    | tup e ra => exact .inr (.inl ⟨_, .of (sm _ _ e), by rw [emp_rp ra]⟩)
  · cases h
    cases r with
    | lst e ra => exact .inl ⟨_, .of (sm _ _ e), by rw [emp_rp ra]⟩
  · cases h
def dTru (d : List Sl → Option D) : List Sl → Option Bool := fun ρ => (d ρ).bind fTru
theorem dt_truth {a : Expr} {da : List Sl → Option D} (ha : PE X a (tD C da)) (he : ∀ whole, isTrue a X.env whole = (do let v ← whole; standAt a.pos; holding [v] (truthy v)) := by intro _; rfl) : PT X a (tB C (dTru da)) :=
  pt_to (pt_truth ha he) fun σ H Q ⟨A, H0, G, ρ, b, en, sm, hd, k⟩ => by
    obtain ⟨d, h1, hd⟩ := obind hd
    exact ⟨A, H0, G, ρ, d, en, sm, h1, fun G1 H1 v x1 r1 => ⟨b, tru_rp x1.s r1 hd, k G1 H1 b x1 rfl⟩⟩
def bNot (d : List Sl → Option Bool) : List Sl → Option Bool := fun ρ => (d ρ).bind fun b => some (!b)
def bAnd (d e : List Sl → Option Bool) : List Sl → Option Bool := fun ρ => (d ρ).bind fun b => if b then e ρ else some false
def bOr (d e : List Sl → Option Bool) : List Sl → Option Bool := fun ρ => (d ρ).bind fun b => if b then some true else e ρ
section
variable {a b : Expr} {rest : List Expr} {da db : List Sl → Option Bool}
theorem dt_not (ha : PT X a (tB C da)) : PT X (.UnaryOp .Not a pos) (tB C (bNot da)) := pt_to (pt_not ha) fun σ H Q ⟨A, H0, G, ρ, b, en, sm, hd, k⟩ => by
  obtain ⟨d, h1, hd⟩ := obind hd
  cases hd
  exact ⟨A, H0, G, ρ, d, en, sm, h1, fun G1 H1 v x1 r1 => k G1 H1 _ x1 (by show (!v) = !d; rw [show v = d from r1])⟩
theorem dw_and1 (ha : PT X a (tB C da)) : PW X (.BoolOp .And [a] pos) (tB C da) := pw_and1 ha
theorem dw_or1 (ha : PT X a (tB C da)) : PW X (.BoolOp .Or [a] pos) (tB C da) := pw_or1 ha
theorem dw_and (ha : PT X a (tB C da)) (hb : PW X (.BoolOp .And (b :: rest) pos) (tB C db)) : PW X (.BoolOp .And (a :: b :: rest) pos) (tB C (bAnd da db)) := pw_to (pw_and ha hb) fun σ H Q ⟨A, H0, G, ρ, c, en, sm, hd, k⟩ => by
  obtain ⟨d, h1, hd⟩ := obind hd
  refine ⟨A, H0, G, ρ, d, en, sm, h1, fun G1 H1 v x1 r1 => ?_⟩
  obtain rfl : v = d := r1
  cases v with
  | true => exact ⟨A, H0, G1, ρ, c, en.ext x1, x1.s, by simpa using hd, fun G2 H2 v x2 r2 => k G2 H2 v (x1.trans x2) r2⟩
  | false =>
    have : c = false := by simpa using hd.symm
    subst this
    exact k G1 H1 false x1 rfl
theorem dw_or (ha : PT X a (tB C da)) (hb : PW X (.BoolOp .Or (b :: rest) pos) (tB C db)) : PW X (.BoolOp .Or (a :: b :: rest) pos) (tB C (bOr da db)) := pw_to (pw_or ha hb) fun σ H Q ⟨A, H0, G, ρ, c, en, sm, hd, k⟩ => by
  obtain ⟨d, h1, hd⟩ := obind hd
  refine ⟨A, H0, G, ρ, d, en, sm, h1, fun G1 H1 v x1 r1 => ?_⟩
  obtain rfl : v = d := r1
  cases v with
  | false => exact ⟨A, H0, G1, ρ, c, en.ext x1, x1.s, by simpa using hd, fun G2 H2 v x2 r2 => k G2 H2 v (x1.trans x2) r2⟩
  | true =>
    have : c = true := by simpa using hd.symm
    subst this
    exact k G1 H1 true x1 rfl
end
/-! as values, of bools -/
def vAnd (d e : List Sl → Option D) : List Sl → Option D := fun ρ => (d ρ).bind fun x => (asB x).bind fun b => if b then e ρ else some (.bl false)
def vOr (d e : List Sl → Option D) : List Sl → Option D := fun ρ => (d ρ).bind fun x => (asB x).bind fun b => if b then some (.bl true) else e ρ
section
variable {a b : Expr} {rest : List Expr} {da db : List Sl → Option D}
theorem dn_one {op} (h : PE X a (tD C da)) : PE X (.BoolOp op [a] pos) (tD C da) := pe_one h
theorem dn_andV (ha : PE X a (tD C da)) (hb : PE X (.BoolOp .And (b :: rest) pos) (tD C db)) : PE X (.BoolOp .And (a :: b :: rest) pos) (tD C (vAnd da db)) := pe_to (pe_and ha hb) fun σ H Q ⟨A, H0, G, ρ, c, en, sm, hd, k⟩ => by
  obtain ⟨d, h1, hd⟩ := obind hd
  obtain ⟨z, h2, hd⟩ := obind hd
  have := asB_ok h2
  subst this
  refine ⟨A, H0, G, ρ, _, en, sm, h1, fun G1 H1 v x1 r1 => ?_⟩
  cases r1
  refine ⟨z, rfl, ?_⟩
  cases z with
  | true => exact ⟨A, H0, G1, ρ, c, en.ext x1, x1.s, by simpa [asB] using hd, fun G2 H2 v x2 r2 => k G2 H2 v (x1.trans x2) r2⟩
  | false =>
    have : c = .bl false := by simpa [asB] using hd.symm
    subst this
    exact k G1 H1 _ x1 (.bl false)
theorem dn_orV (ha : PE X a (tD C da)) (hb : PE X (.BoolOp .Or (b :: rest) pos) (tD C db)) : PE X (.BoolOp .Or (a :: b :: rest) pos) (tD C (vOr da db)) := pe_to (pe_or ha hb) fun σ H Q ⟨A, H0, G, ρ, c, en, sm, hd, k⟩ => by
  obtain ⟨d, h1, hd⟩ := obind hd
  obtain ⟨z, h2, hd⟩ := obind hd
  have := asB_ok h2
  subst this
  refine ⟨A, H0, G, ρ, _, en, sm, h1, fun G1 H1 v x1 r1 => ?_⟩
  cases r1
  refine ⟨z, rfl, ?_⟩
  cases z with
  | false => exact ⟨A, H0, G1, ρ, c, en.ext x1, x1.s, by simpa [asB] using hd, fun G2 H2 v x2 r2 => k G2 H2 v (x1.trans x2) r2⟩
  | true =>
    have : c = .bl true := by simpa [asB] using hd.symm
    subst this
    exact k G1 H1 _ x1 (.bl true)
theorem dn_not (ha : PE X a (tD C da)) : PE X (.UnaryOp .Not a pos) (tD C (d1 dNot da)) := pe_to (pe_not ha) fun σ H Q ⟨A, H0, G, ρ, c, en, sm, hd, k⟩ => by
  obtain ⟨d, h1, hd⟩ := obind hd
  unfold dNot at hd
  split at hd
  · cases hd
    exact ⟨A, H0, G, ρ, _, en, sm, h1, fun G1 H1 v x1 r1 => by cases r1; exact ⟨_, rfl, k G1 H1 _ x1 (.bl _)⟩⟩
  · cases hd
def dIfE (c : List Sl → Option Bool) (d e : List Sl → Option D) : List Sl → Option D := fun ρ => (c ρ).bind fun b => if b then d ρ else e ρ
theorem dn_ifExp {c : Expr} {dc : List Sl → Option Bool} (hc : PT X c (tB C dc)) (ha : PE X a (tD C da)) (hb : PE X b (tD C db)) : PE X (.IfExp c a b pos) (tD C (dIfE dc da db)) := pe_to (pe_ifExp hc ha hb) fun σ H Q ⟨A, H0, G, ρ, z, en, sm, hd, k⟩ => by
  obtain ⟨d, h1, hd⟩ := obind hd
  refine ⟨A, H0, G, ρ, d, en, sm, h1, fun G1 H1 v x1 r1 => ?_⟩
  obtain rfl : v = d := r1
  cases v with
  | true => exact ⟨A, H0, G1, ρ, z, en.ext x1, x1.s, by simpa [asB] using hd, fun G2 H2 v x2 r2 => k G2 H2 v (x1.trans x2) r2⟩
  | false => exact ⟨A, H0, G1, ρ, z, en.ext x1, x1.s, by simpa [asB] using hd, fun G2 H2 v x2 r2 => k G2 H2 v (x1.trans x2) r2⟩
/-! chains -/
def dChain (f g : D → D → Option D) (da db dc : List Sl → Option D) : List Sl → Option D := fun ρ => (da ρ).bind fun a => (db ρ).bind fun b => (f a b).bind fun z => (asB z).bind fun k => if k then (dc ρ).bind fun c => g b c else some (.bl false)
theorem is_chain {r r' : R2} {f g : D → D → Option D} (h : Is2 C r f) (h' : Is2 C r' g) (da db dc : List Sl → Option D) : ∀ σ H Q, tD C (dChain f g da db dc) σ H Q → tChain r r' (tD C da) (tD C db) (tD C dc) σ H Q := fun σ H Q ⟨A, H0, G, ρ, d, e, sm, hd, k⟩ => by
  obtain ⟨a, ha, hd⟩ := obind hd
  obtain ⟨b, hb, hd⟩ := obind hd
  obtain ⟨z, hz, hd⟩ := obind hd
  obtain ⟨c, hc, hd⟩ := obind hd
  have := asB_ok hc
  subst this
  refine ⟨A, H0, G, ρ, a, e, sm, ha, fun G1 H1 x x1 r1 => ⟨A, H0, G1, ρ, b, e.ext x1, x1.s, hb, fun G2 H2 y x2 r2 => ?_⟩⟩
  refine h A G2 H2 x y a b _ _ x2.s (r1.mono x2.g) r2 hz fun G3 H3 v x3 r3 => ?_
  cases r3
  refine ⟨c, rfl, ?_⟩
  cases c with
  | false =>
    have : d = .bl false := by simpa [asB] using hd.symm
    subst this
    exact k _ _ _ ((x1.trans x2).trans x3) (.bl false)
  | true =>
    obtain ⟨w, hw, hd⟩ := obind (by simpa [asB] using hd)
    exact ⟨A, H0, G3, ρ, w, ((e.ext x1).ext x2).ext x3, x3.s, hw, fun G4 H4 u x4 r4 => h' A G4 H4 y u b w d Q x4.s ((r2.mono x3.g).mono x4.g) r4 hd fun G5 H5 v x5 r5 => k _ _ _ ((((x1.trans x2).trans x3).trans x4).trans x5) r5⟩
theorem dt_chain {op op' : CmpOp} {r r' : R2} {f g : D → D → Option D} {c : Expr} {dc : List Sl → Option D} (h : Is2 C r f) (h' : Is2 C r' g) (ho : OpR X (compareOp op) r) (ho' : OpR X (compareOp op') r') (ha : PE X a (tD C da)) (hb : PE X b (tD C db)) (hc : PE X c (tD C dc))
    (hm : lastMarks [op, op'] [b, c] = false := by with_unfolding_all rfl) : PT X (.Compare a [op, op'] [b, c] pos) (tB C (dAsB (dChain f g da db dc))) := pt_to (pt_chain ho ho' ha hb hc hm) (test_of (is_chain h h' da db dc))
theorem dn_chain {op op' : CmpOp} {r r' : R2} {f g : D → D → Option D} {c : Expr} {dc : List Sl → Option D} (h : Is2 C r f) (h' : Is2 C r' g) (ho : OpR X (compareOp op) r) (ho' : OpR X (compareOp op') r') (ha : PE X a (tD C da)) (hb : PE X b (tD C db)) (hc : PE X c (tD C dc))
    (hm : lastMarks [op, op'] [b, c] = false := by with_unfolding_all rfl) : PE X (.Compare a [op, op'] [b, c] pos) (tD C (dChain f g da db dc)) := pe_to (pe_chain ho ho' ha hb hc hm) (is_chain h h' da db dc)
end
/-! ### calls -/
/-- the promise of a def that computes f -/
def SpD (C : Addr) (f : List D → Option D) : Sp := fun vs H Q _ => ∃ A G ds d, Cel A G H ∧ Same G H ∧ RpAll C A G vs ds ∧ f ds = some d ∧ ∀ G' H' v, Ext G H G' H' → Rp C A G' v d → Q v H'
def dCall (f : List D → Option D) (das : List Sl → Option (List D)) : List Sl → Option D := fun ρ => (das ρ).bind f
theorem dn_call {CX : CXT} {k : Nat} {f : Addr} {fd : FuncData} {ps : List Str} {g : List D → Option D} {E : XK} {x : Str} {p : Pos} {e : Expr} {es : List Expr} {das : List Sl → Option (List D)}
    (F : FnOk X.prog X.w X.K X.mg X.base CX k f fd ps (SpD C g)) (hr : Room k X.A) (hg : Gl X x) (hm : X.mg x = some (.ref f)) (hk : PySem.W.keepIn X.K (.ref f) = true) (hb : Binds X.K fd ps []) (hx : Passes CX X E)
    (ha : PA X (e :: es) (tA C das)) (hdb : (x == ("__debug__" : Str)) = false := by decide) (he : starEach (e :: es) X.env = (false, eval e X.env) :: starEach es X.env := by rfl) (hpl : (backTo pos (starEach es X.env)).any (·.1) = false := by rfl) :
    PE X (.Call (.Name x p) (e :: es) [] pos) (tD C (dCall g das)) :=
  pe_to (pe_call F hr hg hm hk hb .nil hx ha hdb he hpl) fun σ H Q ⟨A, H0, G, ρ, d, en, sm, hd, k⟩ => by
    obtain ⟨ds, h1, hd⟩ := obind hd
    exact ⟨A, H0, G, ρ, ds, en, sm, h1, fun G1 H1 vs x1 r1 => ⟨A, G1, ds, d, (en.ext x1).cel, x1.s, by rw [List.append_nil]; exact r1, hd, fun G' H' v x2 r2 => k G' H' v (x1.trans x2) r2⟩⟩
/-- a built-in function -/
def IsN (C : Addr) (r : List V → Hp → VK → Prop) (f : List D → Option D) : Prop := ∀ (A : List Addr) (G H : Hp) (xs : List V) (ds : List D) (d : D) (Q : VK), Same G H → RpAll C A G xs ds → f ds = some d → (∀ G' H' v, Ext G H G' H' → Rp C A G' v d → Q v H') → r xs H Q
theorem isN {r : List V → Hp → VK → Prop} {f : List D → Option D} (h : IsN C r f) (das : List Sl → Option (List D)) : ∀ σ H Q, tD C (dCall f das) σ H Q → tCB r (tA C das) σ H Q := fun σ H Q ⟨A, H0, G, ρ, d, en, sm, hd, k⟩ => by
  obtain ⟨ds, h1, hd⟩ := obind hd
  exact ⟨A, H0, G, ρ, ds, en, sm, h1, fun G1 H1 vs x1 r1 => h A G1 H1 vs ds d Q x1.s r1 hd fun G' H' v x2 r2 => k G' H' v (x1.trans x2) r2⟩
section
variable {x : Str} {p : Pos} {e : Expr} {es : List Expr} {das : List Sl → Option (List D)} {id T : String} {r : List V → Hp → VK → Prop} {f : List D → Option D}
theorem dn_callB (h : IsN C r f) (hc : CallR X (.builtin id) r) (hg : Gl X x) (hm : X.mg x = none) (hv : bootBuiltins x = some (.builtin id)) (ha : PA X (e :: es) (tA C das)) (hn : x ≠ "__name__" := by decide) (hdb : (x == ("__debug__" : Str)) = false := by decide)
    (he : starEach (e :: es) X.env = (false, eval e X.env) :: starEach es X.env := by rfl) (hpl : (backTo pos (starEach es X.env)).any (·.1) = false := by rfl) : PE X (.Call (.Name x p) (e :: es) [] pos) (tD C (dCall f das)) :=
  pe_to (pe_callB hc hg hm hv ha hn hdb he hpl) (isN h das)
theorem dn_callTy (h : IsN C r f) (hc : CallR X (.type T) r) (hg : Gl X x) (hm : X.mg x = none) (hv : bootBuiltins x = some (.type T)) (ha : PA X (e :: es) (tA C das)) (hn : x ≠ "__name__" := by decide) (hdb : (x == ("__debug__" : Str)) = false := by decide)
    (he : starEach (e :: es) X.env = (false, eval e X.env) :: starEach es X.env := by rfl) (hpl : (backTo pos (starEach es X.env)).any (·.1) = false := by rfl) : PE X (.Call (.Name x p) (e :: es) [] pos) (tD C (dCall f das)) :=
  pe_to (pe_callTy hc hg hm hv ha hn hdb he hpl) (isN h das)
theorem dn_callBfun (h : IsN C r f) (hc : CallR X (.builtin id) r) (hg : Gl X x) (hm : X.mg x = some (.builtin id)) (ha : PA X (e :: es) (tA C das)) (hdb : (x == ("__debug__" : Str)) = false := by decide)
    (he : starEach (e :: es) X.env = (false, eval e X.env) :: starEach es X.env := by rfl) (hpl : (backTo pos (starEach es X.env)).any (·.1) = false := by rfl) : PE X (.Call (.Name x p) (e :: es) [] pos) (tD C (dCall f das)) :=
  pe_to (pe_callBfun hc hg hm ha hdb he hpl) (isN h das)
end
def fLen : List D → Option D
  | [.tup ds] => some (.int ds.length)
  | [.lst ds] => some (.int ds.length)
  | _ => none
theorem is_len {K : PySem.W.Frag} : IsN C (fun xs H Q => ∃ p ys, xs = [.ref p] ∧ (SqL K H p ys ∨ SqT K H p ys) ∧ Q (.int ys.length) H) fLen := fun A G H xs ds d Q sm r hd k => by
  unfold fLen at hd
  split at hd
  · cases hd
    cases r with
    | cons r1 r2 =>
      cases r2
      cases r1 with
      | tup e ra => exact ⟨_, _, rfl, .inr (.of (sm _ _ e)), by rw [ra.len]; exact k G H _ (.refl sm) (.int _)⟩
  · cases hd
    cases r with
    | cons r1 r2 =>
      cases r2
      cases r1 with
      | lst e ra => exact ⟨_, _, rfl, .inl (.of (sm _ _ e)), by rw [ra.len]; exact k G H _ (.refl sm) (.int _)⟩
  · cases hd
def fAbs : List D → Option D
  | [.int i] => some (.int (if i < 0 then -i else i))
  | _ => none
theorem is_abs : IsN C (fun xs H Q => ∃ i, xs = [.int i] ∧ Q (.int (if i < 0 then -i else i)) H) fAbs := fun A G H xs ds d Q sm r hd k => by
  unfold fAbs at hd
  split at hd
  · cases hd
    cases r with
    | cons r1 r2 => cases r2; cases r1; exact ⟨_, rfl, k G H _ (.refl sm) (.int _)⟩
  · cases hd
def fGcd : List D → Option D
  | [.int a, .int b] => some (.int ((Nat.gcd a.natAbs b.natAbs : Nat) : Int))
  | _ => none
theorem is_gcd : IsN C rGcd fGcd := fun A G H xs ds d Q sm r hd k => by
  unfold fGcd at hd
  split at hd
  · cases hd
    cases r with
    | cons r1 r2 => cases r2 with | cons r2 r3 => cases r3; cases r1; cases r2; exact ⟨_, _, rfl, k G H _ (.refl sm) (.int _)⟩
  · cases hd
def fTuple : List D → Option D
  | [.tup ds] => some (.tup ds)
  | [.lst ds] => some (.tup ds)
  | _ => none
theorem is_tuple {K : PySem.W.Frag} : IsN C (fun xs H Q => ∃ p ys, xs = [.ref p] ∧ ((SqL K H p ys ∧ ∀ l, H l = none → Q (.ref l) (upd H l (.tup ys))) ∨ (SqT K H p ys ∧ Q (.ref p) H))) fTuple := fun A G H xs ds d Q sm r hd k => by
  unfold fTuple at hd
  split at hd
  · cases hd
    cases r with
    | cons r1 r2 =>
      cases r2
      cases r1 with
      | tup e ra => exact ⟨_, _, rfl, .inr ⟨.of (sm _ _ e), k G H _ (.refl sm) (.tup e ra)⟩⟩
  · cases hd
    cases r with
    | cons r1 r2 =>
      cases r2
      cases r1 with
      | lst e ra => exact ⟨_, _, rfl, .inl ⟨.of (sm _ _ e), fun l nl => k _ _ _ (.new sm nl _) (.tup upd_same (ra.mono (same_new (none_of sm nl) _)))⟩⟩
  · cases hd
def fInt : List D → Option D
  | [.int i] => some (.int i)
  | [.bl b] => some (.int (if b then 1 else 0))
  | _ => none
theorem is_int : IsN C (fun xs H Q => (∃ i, xs = [.int i] ∧ Q (.int i) H) ∨ ∃ k, xs = [.bl k] ∧ Q (.int (if k then 1 else 0)) H) fInt := fun A G H xs ds d Q sm r hd k => by
  unfold fInt at hd
  split at hd
  · cases hd
    cases r with
    | cons r1 r2 => cases r2; cases r1; exact .inl ⟨_, rfl, k G H _ (.refl sm) (.int _)⟩
  · cases hd
    cases r with
    | cons r1 r2 => cases r2; cases r1; exact .inr ⟨_, rfl, k G H _ (.refl sm) (.int _)⟩
  · cases hd
/-! lists of intL, of bools -/
def intL : List D → Option (List Int)
  | [] => some []
  | .int i :: ds => (intL ds).bind fun r => some (i :: r)
  | _ :: _ => none
theorem intL_rp {G : Hp} : ∀ {ds : List D} {vs : List V} {ns : List Int}, RpAll C A G vs ds → intL ds = some ns → vs = ns.map V.int
  | [], _, _, r, h => by cases r; cases h; rfl
  | d :: ds, _, _, r, h => by
    cases r with
    | cons r1 r2 =>
      unfold intL at h
      split at h
      · rename_i q; cases q
      · rename_i q
        cases q
        obtain ⟨ns, h1, h2⟩ := obind h
        cases h2
        cases r1
        rw [intL_rp r2 h1]
        rfl
      · cases h
def maxI : Int → List Int → Int
  | m, [] => m
  | m, n :: ns => maxI (if n > m then n else m) ns
def minI : Int → List Int → Int
  | m, [] => m
  | m, n :: ns => minI (if n < m then n else m) ns
theorem maxI_ok : ∀ (ns : List Int) (m : Int), (maxI m ns = m ∨ maxI m ns ∈ ns) ∧ m ≤ maxI m ns ∧ ∀ y ∈ ns, y ≤ maxI m ns
  | [], m => ⟨.inl rfl, Int.le_refl _, fun _ h => by cases h⟩
  | n :: ns, m => by
    unfold maxI
    obtain ⟨h1, h2, h3⟩ := maxI_ok ns (if n > m then n else m)
    refine ⟨?_, ?_, fun y hy => ?_⟩
    · rcases h1 with h1 | h1
      · rw [h1]; split
        · exact .inr List.mem_cons_self
        · exact .inl rfl
      · exact .inr (List.mem_cons_of_mem _ h1)
    · refine Int.le_trans ?_ h2; split <;> omega
    · rcases List.mem_cons.mp hy with rfl | hy
      · refine Int.le_trans ?_ h2; split <;> omega
      · exact h3 y hy
theorem minI_ok : ∀ (ns : List Int) (m : Int), (minI m ns = m ∨ minI m ns ∈ ns) ∧ minI m ns ≤ m ∧ ∀ y ∈ ns, minI m ns ≤ y
  | [], m => ⟨.inl rfl, Int.le_refl _, fun _ h => by cases h⟩
  | n :: ns, m => by
    unfold minI
    obtain ⟨h1, h2, h3⟩ := minI_ok ns (if n < m then n else m)
    refine ⟨?_, ?_, fun y hy => ?_⟩
    · rcases h1 with h1 | h1
      · rw [h1]; split
        · exact .inr List.mem_cons_self
        · exact .inl rfl
      · exact .inr (List.mem_cons_of_mem _ h1)
    · refine Int.le_trans h2 ?_; split <;> omega
    · rcases List.mem_cons.mp hy with rfl | hy
      · refine Int.le_trans h2 ?_; split <;> omega
      · exact h3 y hy
def max1 : List Int → Option D
  | [] => none
  | n :: ns => some (.int (maxI n ns))
def min1 : List Int → Option D
  | [] => none
  | n :: ns => some (.int (minI n ns))
def fMax : List D → Option D
  | [.int i, .int j] => some (.int (if j > i then j else i))
  | [.lst ds] => (intL ds).bind max1
  | _ => none
def fMin : List D → Option D
  | [.int i, .int j] => some (.int (if j < i then j else i))
  | [.lst ds] => (intL ds).bind min1
  | _ => none
def rMaxA (K : PySem.W.Frag) : List V → Hp → VK → Prop := fun xs H Q => (∃ i j, xs = [.int i, .int j] ∧ Q (.int (if j > i then j else i)) H) ∨ rMax K xs H Q
def rMinA (K : PySem.W.Frag) : List V → Hp → VK → Prop := fun xs H Q => (∃ i j, xs = [.int i, .int j] ∧ Q (.int (if j < i then j else i)) H) ∨ rMin K xs H Q
theorem is_max {K : PySem.W.Frag} : IsN C (rMaxA K) fMax := fun A G H xs ds d Q sm r hd k => by
  unfold fMax at hd
  split at hd
  · cases hd
    cases r with
    | cons r1 r2 => cases r2 with | cons r2 r3 => cases r3; cases r1; cases r2; exact .inl ⟨_, _, rfl, k G H _ (.refl sm) (.int _)⟩
  · obtain ⟨ns, h1, hd⟩ := obind hd
    cases r with
    | cons r1 r2 =>
      cases r2
      cases r1 with
      | lst e ra =>
        have hv := intL_rp ra h1
        subst hv
        cases ns with
        | nil => cases hd
        | cons n ns =>
          cases hd
          refine .inr ⟨_, n :: ns, rfl, .of (sm _ _ e), Nat.zero_lt_succ _, fun m hm hb => ?_⟩
          have hh := maxI_ok ns n
          have : m = maxI n ns := by
            apply Int.le_antisymm
            · rcases List.mem_cons.mp hm with rfl | hm
              · exact hh.2.1
              · exact hh.2.2 m hm
            · rcases hh.1 with z | z
              · rw [z]; exact hb n List.mem_cons_self
              · exact hb _ (List.mem_cons_of_mem _ z)
          subst this
          exact k G H _ (.refl sm) (.int _)
  · cases hd
theorem is_min {K : PySem.W.Frag} : IsN C (rMinA K) fMin := fun A G H xs ds d Q sm r hd k => by
  unfold fMin at hd
  split at hd
  · cases hd
    cases r with
    | cons r1 r2 => cases r2 with | cons r2 r3 => cases r3; cases r1; cases r2; exact .inl ⟨_, _, rfl, k G H _ (.refl sm) (.int _)⟩
  · obtain ⟨ns, h1, hd⟩ := obind hd
    cases r with
    | cons r1 r2 =>
      cases r2
      cases r1 with
      | lst e ra =>
        have hv := intL_rp ra h1
        subst hv
        cases ns with
        | nil => cases hd
        | cons n ns =>
          cases hd
          refine .inr ⟨_, n :: ns, rfl, .of (sm _ _ e), Nat.zero_lt_succ _, fun m hm hb => ?_⟩
          have hh := minI_ok ns n
          have : m = minI n ns := by
            apply Int.le_antisymm
            · rcases hh.1 with z | z
              · rw [z]; exact hb n List.mem_cons_self
              · exact hb _ (List.mem_cons_of_mem _ z)
            · rcases List.mem_cons.mp hm with rfl | hm
              · exact hh.2.1
              · exact hh.2.2 m hm
          subst this
          exact k G H _ (.refl sm) (.int _)
  · cases hd
def fSum : List D → Option D
  | [.lst ds] => (intL ds).bind fun ns => some (.int ns.sum)
  | _ => none
theorem is_sum {K : PySem.W.Frag} : IsN C (rSum K) fSum := fun A G H xs ds d Q sm r hd k => by
  unfold fSum at hd
  split at hd
  · obtain ⟨ns, h1, hd⟩ := obind hd
    cases hd
    cases r with
    | cons r1 r2 =>
      cases r2
      cases r1 with
      | lst e ra =>
        have hv := intL_rp ra h1
        subst hv
        exact ⟨_, ns, rfl, .of (sm _ _ e), k G H _ (.refl sm) (.int _)⟩
  · cases hd
/-! x.bit_length() -/
def fBits : D → Option D
  | .int i => some (.int (Builtin.Int.intBits i : Nat))
  | _ => none
theorem dn_bits {o : Expr} {apos : Pos} {d : List Sl → Option D} (ho : PE X o (tD C d)) (hbase : attributeBase o "bit_length" X.env (eval o X.env) = eval o X.env := by rfl) (hline : (apos.endLine == pos.line) = true := by rfl) : PE X (.Call (.Attribute o "bit_length" apos) [] [] pos) (tD C (d1 fBits d)) :=
  pe_to (pe_bits ho hbase hline) fun σ H Q ⟨A, H0, G, ρ, z, en, sm, hd, k⟩ => by
    obtain ⟨a, h1, hd⟩ := obind hd
    unfold fBits at hd
    split at hd
    · cases hd
      exact ⟨A, H0, G, ρ, _, en, sm, h1, fun G1 H1 v x1 r1 => by cases r1; exact ⟨_, rfl, k G1 H1 _ x1 (.int _)⟩⟩
    · cases hd
end
end DN

/-! zip of a tuple and a list -/
namespace KW
open PySem PySem.Spec PyProof.Rows L2
/-- the tuple at a and the list at b as they stand at each turn -/
def ItM (K : PySem.W.Frag) (a b : Addr) : It where
  go := fun i H => ∃ xs ys x y, SqT K H a xs ∧ SqL K H b ys ∧ xs[i]? = some x ∧ ys[i]? = some y
  yld := fun i H v H' => ∃ T x y, v = .ref T ∧ H T = none ∧ H' = upd H T (.tup [x, y]) ∧ (∀ us, SqT K H a us → us[i]? = some x) ∧ (∀ us, SqL K H b us → us[i]? = some y)
  stop := fun i H => ∃ xs ys, SqT K H a xs ∧ SqL K H b ys ∧ i ≤ xs.length ∧ i ≤ ys.length ∧ (i = xs.length ∨ i = ys.length)
/-- the five cells of such a zip -/
def ZCells (z t o i j : Addr) : List Addr := [z, t, o, i, j]
theorem zcells {z t o i j c : Addr} (h : c ∈ ZCells z t o i j) : c = z ∨ c = t ∨ c = o ∨ c = i ∨ c = j := by simpa [ZCells] using h
def ZState (a b z t o i j : Addr) (k : Nat) (h : Heap) : Prop :=
  IsZip h z t o .none ∧ IsTupOf2 h t (.ref i) (.ref j) ∧ (∃ u v, IsTupOf2 h o u v) ∧ h.IsTupleIter i a k ∧ h.IsListIter j b k
theorem zsep {z t o i j a b : Addr} (D : ZipApart z t o i j a b) : ZipSep2 z t o i j [i, a] [j, b] := by
  have e1 := D.i1z; have e2 := D.l1z; have e3 := D.TOi1; have e4 := D.l1TO; have e5 := D.i2z; have e6 := D.l2z; have e7 := D.TOi2; have e8 := D.l2TO; have e9 := D.i12; have e10 := D.l2i1; have e11 := D.l1i2
  have nin : ∀ {c p q : Addr}, c ≠ p → c ≠ q → c ∉ [p, q] := fun h1 h2 hm => by
    rcases List.mem_cons.mp hm with q | q
    · exact h1 q
    · exact h2 (List.mem_singleton.mp q)
  exact { TIz := D.TIz, TOz := D.TOz, TITO := D.TITO, TIi1 := D.TIi1, TIi2 := D.TIi2, mem1 := List.mem_cons_self, mem2 := List.mem_cons_self, zf1 := nin (Ne.symm e1) (Ne.symm e2), Tf1 := nin e3 (Ne.symm e4), zf2 := nin (Ne.symm e5) (Ne.symm e6), Tf2 := nin e7 (Ne.symm e8), sep1_2 := nin e9 (Ne.symm e10), sep2_1 := nin (Ne.symm e9) (Ne.symm e11) }
section
variable {P : Program} {w : World} {K : PySem.W.Frag} {es : List Expr} {n : Nat} {tp : Pos} {a b z t o i j : Addr}
theorem turnM (D : ZipApart z t o i j a b) : Turn P w K (.Tuple es n tp) (ItM K a b) (ZCells z t o i j) z (ZState a b z t o i j) := by
  refine { mem := by simp [ZCells], obj := ?obj, keep := ?keep, item := ?item, done := ?done, self := fun _ _ _ _ _ st h => wpAny_pyIter_zip st.1 h }
  case obj =>
    rintro k h ⟨s1, s2, ⟨u, v, s3⟩, ⟨o1, p1, _, p2⟩, ⟨o2, p3, _, p4⟩⟩ c hc
    rcases zcells hc with rfl | rfl | rfl | rfl | rfl
    · exact ⟨_, s1, fun v q => nomatch q⟩
    · exact ⟨_, s2, fun v q => nomatch q⟩
    · exact ⟨_, s3, fun v q => nomatch q⟩
    · exact ⟨o1, p1, fun v q => by rw [p2] at q; cases q⟩
    · exact ⟨o2, p3, fun v q => by rw [p4] at q; cases q⟩
  case keep =>
    rintro k h h' ⟨s1, s2, ⟨u, v, s3⟩, s4, s5⟩ kp
    have m : ∀ c, (c = z ∨ c = t ∨ c = o ∨ c = i ∨ c = j) → c ∈ ZCells z t o i j := fun c q => by simpa [ZCells] using q
    exact ⟨kp _ (m _ (.inl rfl)) _ s1, kp _ (m _ (.inr (.inl rfl))) _ s2, ⟨u, v, kp _ (m _ (.inr (.inr (.inl rfl)))) _ s3⟩, s4.at fun _ q => kp _ (m _ (.inr (.inr (.inr (.inl rfl))))) _ q, s5.at fun _ q => kp _ (m _ (.inr (.inr (.inr (.inr rfl))))) _ q⟩
  case item =>
    rintro X rfl rfl rfl hc k pins s σ H E I hf ⟨s1, s2, ⟨u, v, s3⟩, s4, s5⟩ ⟨xs, ys, x, y, qx, qy, gx, gy⟩
    obtain ⟨its, r1, p1, _⟩ := I.tuple qx
    obtain ⟨jts, r2, p2, _⟩ := I.list qy
    obtain ⟨w1, f1, rw1⟩ := r1.get gx
    obtain ⟨w2, f2, rw2⟩ := r2.get gy
    have b1 : k < its.toArray.size := by rw [List.size_toArray]; exact (List.getElem?_eq_some_iff.mp f1).1
    have b2 : k < jts.toArray.size := by rw [List.size_toArray]; exact (List.getElem?_eq_some_iff.mp f2).1
    have zlt := Heap.lt_size s1
    have hh : X.A.in1.handled = none := I.ok.hd hc
    refine wpAny_pyNext_zipD2_item (zsep D) (Draws.tuple hh i a D.l1i1 its.toArray) (Draws.list hh j b D.l2i2 jts.toArray) s1 s2 s3 ⟨s4, p1⟩ ⟨s5, p2.isList⟩ b1 b2 fun x1 x2 h' tk e1 e2 c1 c2 c3 c4 c5 c6 c7 => ?_
    have ex1 : x1 = w1 := by
      have : its[k]? = some x1 := by simpa using e1
      rw [f1] at this; exact (Option.some.inj this).symm
    have ex2 : x2 = w2 := by
      have : jts[k]? = some x2 := by simpa using e2
      rw [f2] at this; exact (Option.some.inj this).symm
    subst ex1 ex2
    refine ⟨_, rfl, wpAny_letOwnedTupleGo_zip (s := { s with heap := h', toks := tk }) c1 fun h2 z2 sb => ?_⟩
    have g2 : ∀ c ob, c ≠ z → h'.get? c = some ob → h2.get? c = some ob := fun c ob ne q => (sb.2 c ne).trans q
    have T2 : IsTupOf2 h2 s.heap.objs.size x1 x2 := g2 _ _ (Nat.ne_of_gt zlt) c5
    have nw : ObjOk X.prog X.w (upd H s.heap.objs.size (.tup [x, y])) h2 s.heap.objs.size (.tup [x, y]) := ⟨(by show 2 ≤ sizeLine; decide), [x1, x2], .cons rw1 (.cons rw2 .nil), ⟨_, T2, rfl, _, rfl⟩⟩
    have I1 : Inv X pins σ (upd H s.heap.objs.size (.tup [x, y])) { s with heap := h2, toks := tk } := I.turnedNew (ch := ZCells z t o i j) (fun c ob hb q => by
      have ne : ∀ d, d ∈ ZCells z t o i j → c ≠ d := fun d hd e => hb (e ▸ hd)
      exact g2 _ _ (ne _ (by simp [ZCells])) (c7 c ob (ne _ (by simp [ZCells])) (ne _ (by simp [ZCells])) (ne _ (by simp [ZCells])) (ne _ (by simp [ZCells])) q)) hf (Nat.le_refl _) nw
    refine ⟨.ref s.heap.objs.size, _, I1, rfl, ⟨_, x, y, rfl, I.hok.fresh (Nat.le_refl _), rfl, fun us hu => by rw [I.tuple_inj hu qx]; exact gx, fun us hu => by rw [I.list_inj hu qy]; exact gy⟩, ⟨z2, g2 _ _ D.TIz (c7 _ _ D.TIz D.TITO D.TIi1 D.TIi2 s2), ⟨x1, x2, g2 _ _ D.TOz c2⟩, c3.1.at fun _ q => g2 _ _ D.i1z q, c4.1.at fun _ q => g2 _ _ D.i2z q⟩, fun c hcm => ?_⟩
    have lt : c < s.heap.objs.size := by
      rcases zcells hcm with rfl | rfl | rfl | rfl | rfl
      · exact zlt
      · exact Heap.lt_size s2
      · exact Heap.lt_size s3
      · obtain ⟨_, q, _⟩ := s4; exact Heap.lt_size q
      · obtain ⟨_, q, _⟩ := s5; exact Heap.lt_size q
    rw [upd_ne (Nat.ne_of_lt lt)]
    exact (hf c hcm).1
  case done =>
    rintro X rfl rfl rfl hc k pins s σ H E I hf ⟨s1, s2, ⟨u, v, s3⟩, s4, s5⟩ ⟨xs, ys, qx, qy, l1, l2, l3⟩
    obtain ⟨its, r1, p1, _⟩ := I.tuple qx
    obtain ⟨jts, r2, p2, _⟩ := I.list qy
    have n1 : its.toArray.size = xs.length := by rw [List.size_toArray]; exact r1.length.symm
    have n2 : jts.toArray.size = ys.length := by rw [List.size_toArray]; exact r2.length.symm
    have hh : X.A.in1.handled = none := I.ok.hd hc
    refine wpAny_pyNext_zipD2_end (zsep D) (Draws.tuple hh i a D.l1i1 its.toArray) (Draws.list hh j b D.l2i2 jts.toArray) s1 s2 s3 ⟨s4, p1⟩ ⟨s5, p2.isList⟩ (by omega) (by omega) (by omega) fun h' tk kp => ⟨rfl, I.turnedL (ch := ZCells z t o i j) (fun c ob hb q => ?_) hf⟩
    have ne : ∀ d, d ∈ ZCells z t o i j → c ≠ d := fun d hd e => hb (e ▸ hd)
    exact kp c ob (ne _ (by simp [ZCells])) (ne _ (by simp [ZCells])) (ne _ (by simp [ZCells])) (ne _ (by simp [ZCells])) q
end
def iZipM (K : PySem.W.Frag) (ta : TA) : TI := fun σ H R => ta σ H fun vs H1 => ∃ a b xs ys, vs = [V.ref a, V.ref b] ∧ SqT K H1 a xs ∧ SqL K H1 b ys ∧ R (ItM K a b) H1
theorem pi_zipM {X : Cx} {e1 e2 : Expr} {ta : TA} {p pos tp : Pos} {es : List Expr} {n : Nat} (hg : Gl X "zip") (hm : X.mg "zip" = none) (ha : PA X [e1, e2] ta)
    (hs : starEach [e1, e2] X.env = (false, eval e1 X.env) :: starEach [e2] X.env := by rfl) (hb : (backTo pos (starEach [e2] X.env)).any (·.1) = false := by rfl) : PI X (.Tuple es n tp) (.Call (.Name "zip" p) [e1, e2] [] pos) (iZipM X.K ta) := by
  constructor
  intro pins s σ H R I h
  refine Call_ (ld_blt I hg hm PyProof.Rows.boot_zip (PyProof.Rows.callWith_type1 (thn (ha.run pos pins s σ H _ I h) ?_) hs hb))
  rintro us s1 ⟨vs, H1, I1, r1, a, b, xs, ys, rfl, qx, qy, q⟩
  obtain ⟨v1, v2, rfl, rv1, rv2⟩ := vals2 r1
  cases rv1
  cases rv2
  obtain ⟨its, _, p1, _⟩ := I1.tuple qx
  obtain ⟨jts, _, p2, _⟩ := I1.list qy
  obtain ⟨o1, g1, _⟩ := id p1
  refine zip_begins2 (begins_tuple a its.toArray) (begins_list b jts.toArray) p1 p2.isList fun h' hz ht ho c1 c2 hsz kp => wpAny_pyIter_zip hz ?_
  refine ⟨s1.heap.objs.size + 4, ZCells _ _ _ _ _, _, _, H1, rfl, I1.kept (t' := s1.toks) kp, turnM (PySem.W.ktu_apart s1.heap.objs.size a b (Heap.lt_size g1) p2.lt), ⟨hz, ht, ⟨_, _, ho⟩, ⟨_, c1, rfl, rfl⟩, ⟨_, c2, rfl, rfl⟩⟩, fun c hc => ?_, q⟩
  have le : s1.heap.objs.size ≤ c := by
    rcases zcells hc with rfl | rfl | rfl | rfl | rfl
    · exact Nat.le_add_right _ _
    · exact Nat.le_add_right _ _
    · exact Nat.le_add_right _ _
    · exact Nat.le_refl _
    · exact Nat.le_add_right _ _
  exact I1.fpOk le (I1.hok.fresh le)
end KW

set_option maxHeartbeats 1000000
/-! what a loop walks, targets, comprehensions by what they compute -/
namespace DN
open PySem PySem.Spec PyProof.Rows L2 KG
section
variable {X : Cx} {C : Addr} {A : List Addr} {pos : Pos}
/-! ### sources -/
theorem pi_or {tg it : Expr} {w1 w2 : TI} (h1 : PI X tg it w1) (h2 : PI X tg it w2) : PI X tg it (fun σ H R => w1 σ H R ∨ w2 σ H R) :=
  ⟨fun pins s σ H R I h => h.elim (h1.run pins s σ H R I) (h2.run pins s σ H R I)⟩
def seqD : D → Option (List D)
  | .tup ds => some ds
  | .lst ds => some ds
  | _ => none
def iSeq (d : List Sl → Option D) : List Sl → Option (List D) := fun ρ => (d ρ).bind seqD
theorem wk_list {K : PySem.W.Frag} {G : Hp} {a : Addr} {vs : List V} {ds : List D} (e : G a = some (.lst vs)) (r : RpAll C A G vs ds) : Wk C A (Itl K a) G ds := fun i G2 H2 s1 s2 => by
  have eq : SqL K H2 a vs := .of (s2 _ _ (s1 _ _ e))
  refine ⟨fun z => ⟨vs, eq, by rw [r.len]; omega⟩, fun d hd => ?_⟩
  obtain ⟨v, h1, h2⟩ := r.get hd
  refine ⟨⟨vs, v, eq, h1⟩, fun x H3 y => ?_⟩
  obtain ⟨e1, y⟩ := y
  subst e1
  have := y _ eq
  rw [h1] at this; cases this
  exact ⟨G2, .refl s2, h2.mono s1⟩
theorem wk_tup {K : PySem.W.Frag} {G : Hp} {a : Addr} {vs : List V} {ds : List D} (e : G a = some (.tup vs)) (r : RpAll C A G vs ds) : Wk C A (Itt K a) G ds := fun i G2 H2 s1 s2 => by
  have eq : SqT K H2 a vs := .of (s2 _ _ (s1 _ _ e))
  refine ⟨fun z => ⟨vs, eq, by rw [r.len]; omega⟩, fun d hd => ?_⟩
  obtain ⟨v, h1, h2⟩ := r.get hd
  refine ⟨⟨vs, v, eq, h1⟩, fun x H3 y => ?_⟩
  obtain ⟨e1, y⟩ := y
  subst e1
  have := y _ eq
  rw [h1] at this; cases this
  exact ⟨G2, .refl s2, h2.mono s1⟩
theorem di_seq {tg l : Expr} {d : List Sl → Option D} (hl : PE X l (tD C d)) : PI X tg l (tI C (iSeq d)) :=
  pi_to (pi_or (pi_list hl) (pi_tup hl)) fun σ H R ⟨A, H0, G, ρ, z, en, sm, hd, k⟩ => by
    obtain ⟨a, h1, hd⟩ := obind hd
    unfold seqD at hd
    split at hd
    · cases hd
      refine .inr ⟨A, H0, G, ρ, _, en, sm, h1, fun G1 H1 x x1 r1 => ?_⟩
      cases r1 with
      | tup e r => exact ⟨_, rfl, ⟨_, .of (x1.s _ _ e)⟩, k _ G1 H1 x1 (wk_tup e r)⟩
    · cases hd
      refine .inl ⟨A, H0, G, ρ, _, en, sm, h1, fun G1 H1 x x1 r1 => ?_⟩
      cases r1 with
      | lst e r => exact ⟨_, rfl, ⟨_, .of (x1.s _ _ e)⟩, k _ G1 H1 x1 (wk_list e r)⟩
    · cases hd
/-! reversed -/
def iRevD (d : List Sl → Option D) : List Sl → Option (List D) := fun ρ => (d ρ).bind fun x => (seqD x).bind fun ds => some ds.reverse
theorem rev_get {α : Type} {l : List α} {i : Nat} {x : α} (h : l.reverse[i]? = some x) : i < l.length ∧ l[l.length - 1 - i]? = some x := by
  have hi : i < l.length := by
    have := (List.getElem?_eq_some_iff.mp h).1
    rwa [List.length_reverse] at this
  rw [List.getElem?_reverse hi] at h
  exact ⟨hi, h⟩
theorem wk_revL {K : PySem.W.Frag} {G : Hp} {a : Addr} {vs : List V} {ds : List D} (e : G a = some (.lst vs)) (r : RpAll C A G vs ds) : Wk C A (Itv K a vs.length) G ds.reverse := fun i G2 H2 s1 s2 => by
  have eq : SqL K H2 a vs := .of (s2 _ _ (s1 _ _ e))
  have hl := r.len
  refine ⟨fun z => by show vs.length ≤ i; rw [z, List.length_reverse]; omega, fun d hd => ?_⟩
  obtain ⟨hi, hd⟩ := rev_get hd
  obtain ⟨v, h1, h2⟩ := r.get hd
  rw [← hl] at h1
  refine ⟨⟨by omega, vs, v, eq, h1⟩, fun x H3 y => ?_⟩
  obtain ⟨e1, y⟩ := y
  subst e1
  have := y _ eq
  rw [h1] at this; cases this
  exact ⟨G2, .refl s2, h2.mono s1⟩
theorem wk_revT {K : PySem.W.Frag} {G : Hp} {a : Addr} {vs : List V} {ds : List D} (e : G a = some (.tup vs)) (r : RpAll C A G vs ds) : Wk C A (RT.ItvT K a vs.length) G ds.reverse := fun i G2 H2 s1 s2 => by
  have eq : SqT K H2 a vs := .of (s2 _ _ (s1 _ _ e))
  have hl := r.len
  refine ⟨fun z => by show vs.length ≤ i; rw [z, List.length_reverse]; omega, fun d hd => ?_⟩
  obtain ⟨hi, hd⟩ := rev_get hd
  obtain ⟨v, h1, h2⟩ := r.get hd
  rw [← hl] at h1
  refine ⟨⟨by omega, vs, v, eq, h1⟩, fun x H3 y => ?_⟩
  obtain ⟨e1, y⟩ := y
  subst e1
  have := y _ eq
  rw [h1] at this; cases this
  exact ⟨G2, .refl s2, h2.mono s1⟩
theorem di_rev {tg e : Expr} {p : Pos} {d : List Sl → Option D} (hg : Gl X "reversed") (hm : X.mg "reversed" = none) (he : PE X e (tD C d)) (hs : starEach [e] X.env = (false, eval e X.env) :: starEach [] X.env := by rfl) : PI X tg (.Call (.Name "reversed" p) [e] [] pos) (tI C (iRevD d)) :=
  pi_to (RT.pi_revA hg hm he hs) fun σ H R ⟨A, H0, G, ρ, z, en, sm, hd, k⟩ => by
    obtain ⟨a, h1, hd⟩ := obind hd
    obtain ⟨ds, h2, hd⟩ := obind hd
    cases hd
    refine ⟨A, H0, G, ρ, a, en, sm, h1, fun G1 H1 x x1 r1 => ?_⟩
    unfold seqD at h2
    split at h2
    · cases h2
      cases r1 with
      | tup e r => exact ⟨_, _, rfl, .inr ⟨.of (x1.s _ _ e), k _ G1 H1 x1 (wk_revT e r)⟩⟩
    · cases h2
      cases r1 with
      | lst e r => exact ⟨_, _, rfl, .inl ⟨.of (x1.s _ _ e), k _ G1 H1 x1 (wk_revL e r)⟩⟩
    · cases h2
/-! range -/
def upI (lo : Int) : Nat → List D
  | 0 => []
  | n + 1 => .int lo :: upI (lo + 1) n
theorem upI_len : ∀ (n : Nat) (lo : Int), (upI lo n).length = n
  | 0, _ => rfl
  | n + 1, lo => by unfold upI; rw [List.length_cons, upI_len n]
theorem upI_get : ∀ (n : Nat) (lo : Int) (i : Nat) (d : D), (upI lo n)[i]? = some d → d = .int (lo + i)
  | 0, _, _, _, h => by simp [upI] at h
  | n + 1, lo, 0, d, h => by
    unfold upI at h
    simp at h
    rw [← h]; simp
  | n + 1, lo, i + 1, d, h => by
    unfold upI at h
    have := upI_get n (lo + 1) i d (by simpa using h)
    rw [this]
    congr 1
    omega
theorem wk_range {G : Hp} (lo : Int) (n : Nat) : Wk C A (Itr lo n) G (upI lo n) := fun i G2 H2 s1 s2 => by
  refine ⟨fun z => by show n ≤ i; rw [z, upI_len]; exact Nat.le_refl _, fun d hd => ?_⟩
  have hi : i < n := by
    have := (List.getElem?_eq_some_iff.mp hd).1
    rwa [upI_len] at this
  refine ⟨hi, fun x H3 y => ?_⟩
  obtain ⟨e1, e2⟩ := y
  subst e1 e2
  rw [upI_get n lo i d hd]
  exact ⟨G2, .refl s2, .int _⟩
def rngB : Int := 4611686018427387904
def inR (i : Int) : Bool := decide (-rngB ≤ i) && decide (i < rngB)
theorem inR_ok {i : Int} (h : inR i = true) : -(2 ^ 62) ≤ i ∧ i < 2 ^ 62 := by
  unfold inR at h
  rw [Bool.and_eq_true] at h
  have e : (2 : Int) ^ 62 = rngB := by decide
  rw [e]
  exact ⟨of_decide_eq_true h.1, of_decide_eq_true h.2⟩
def r1D : List D → Option (List D)
  | [.int j] => if inR j then some (upI 0 j.toNat) else none
  | _ => none
def r2D : List D → Option (List D)
  | [.int i, .int j] => if inR i && inR j then some (upI i (j - i).toNat) else none
  | _ => none
def iRng (f : List D → Option (List D)) (das : List Sl → Option (List D)) : List Sl → Option (List D) := fun ρ => (das ρ).bind f
theorem di_range1 {tg a : Expr} {p : Pos} {das : List Sl → Option (List D)} (hg : Gl X "range") (hm : X.mg "range" = none) (ha : PA X [a] (tA C das)) (hs : starEach [a] X.env = [(false, eval a X.env)] := by rfl) : PI X tg (.Call (.Name "range" p) [a] [] pos) (tI C (iRng r1D das)) :=
  pi_to (pi_range1 hg hm ha hs) fun σ H R ⟨A, H0, G, ρ, z, en, sm, hd, k⟩ => by
    obtain ⟨a, h1, hd⟩ := obind hd
    refine ⟨A, H0, G, ρ, a, en, sm, h1, fun G1 H1 x x1 r1 => ?_⟩
    unfold r1D at hd
    split at hd
    · split at hd
      · rename_i hb
        cases hd
        cases r1 with
        | cons r1 r2 =>
          cases r2
          cases r1
          exact ⟨_, rfl, (inR_ok hb).1, (inR_ok hb).2, k _ G1 H1 x1 (wk_range _ _)⟩
      · cases hd
    · cases hd
theorem di_range2 {tg a b : Expr} {p : Pos} {das : List Sl → Option (List D)} (hg : Gl X "range") (hm : X.mg "range" = none) (ha : PA X [a, b] (tA C das)) (hs : starEach [a, b] X.env = [(false, eval a X.env), (false, eval b X.env)] := by rfl) (hs2 : starEach [b] X.env = [(false, eval b X.env)] := by rfl) : PI X tg (.Call (.Name "range" p) [a, b] [] pos) (tI C (iRng r2D das)) :=
  pi_to (pi_range2 hg hm ha hs hs2) fun σ H R ⟨A, H0, G, ρ, z, en, sm, hd, k⟩ => by
    obtain ⟨a, h1, hd⟩ := obind hd
    refine ⟨A, H0, G, ρ, a, en, sm, h1, fun G1 H1 x x1 r1 => ?_⟩
    unfold r2D at hd
    split at hd
    · split at hd
      · rename_i hb
        rw [Bool.and_eq_true] at hb
        cases hd
        cases r1 with
        | cons r1 r2 =>
          cases r2 with
          | cons r2 r3 =>
            cases r3
            cases r1
            cases r2
            exact ⟨_, _, rfl, ⟨(inR_ok hb.1).1, (inR_ok hb.1).2, (inR_ok hb.2).1, (inR_ok hb.2).2⟩, k _ G1 H1 x1 (wk_range _ _)⟩
      · cases hd
    · cases hd
/-! reversed(range(n)) -/
def dnI : Nat → List D
  | 0 => []
  | n + 1 => .int n :: dnI n
theorem dnI_len : ∀ n : Nat, (dnI n).length = n
  | 0 => rfl
  | n + 1 => by unfold dnI; rw [List.length_cons, dnI_len n]
theorem dnI_get : ∀ (n i : Nat) (d : D), (dnI n)[i]? = some d → d = .int ((n : Int) - 1 - i)
  | 0, _, _, h => by simp [dnI] at h
  | n + 1, 0, d, h => by
    unfold dnI at h
    simp at h
    rw [← h]
    congr 1
    omega
  | n + 1, i + 1, d, h => by
    unfold dnI at h
    have := dnI_get n i d (by simpa using h)
    rw [this]
    congr 1
    omega
def iRevR1 (d : List Sl → Option D) : List Sl → Option (List D) := fun ρ => (d ρ).bind fun x => match x with
  | .int j => if inR j then some (dnI j.toNat) else none
  | _ => none
theorem di_revR1 {tg a : Expr} {p p2 pos2 : Pos} {d : List Sl → Option D} (hg : Gl X "reversed") (hm : X.mg "reversed" = none) (hg2 : Gl X "range") (hm2 : X.mg "range" = none) (ha : PE X a (tD C d)) (na : starEach [a] X.env = (false, eval a X.env) :: starEach [] X.env := by rfl)
    (hs : starEach [.Call (.Name "range" p2) [a] [] pos2] X.env = (false, eval (.Call (.Name "range" p2) [a] [] pos2) X.env) :: starEach [] X.env := by rfl) : PI X tg (.Call (.Name "reversed" p) [.Call (.Name "range" p2) [a] [] pos2] [] pos) (tI C (iRevR1 d)) :=
  pi_to (pi_revR hg hm (prg_1 hg2 hm2 ha na) hs) fun σ H R ⟨A, H0, G, ρ, z, en, sm, hd, k⟩ => by
    obtain ⟨a, h1, hd⟩ := obind hd
    refine ⟨A, H0, G, ρ, a, en, sm, h1, fun G1 H1 x x1 r1 => ?_⟩
    split at hd
    · split at hd
      · rename_i j hb
        cases hd
        cases r1
        obtain ⟨b1, b2⟩ := inR_ok hb
        refine ⟨j, rfl, by decide, by decide, b1, b2, k _ G1 H1 x1 fun i G2 H2 s1 s2 => ?_⟩
        rw [Int.sub_zero]
        refine ⟨fun z => by show j.toNat ≤ i; rw [z, dnI_len]; exact Nat.le_refl _, fun d hd => ?_⟩
        have hi : i < j.toNat := by
          have := (List.getElem?_eq_some_iff.mp hd).1
          rwa [dnI_len] at this
        refine ⟨hi, fun x H3 y => ?_⟩
        obtain ⟨e1, e2⟩ := y
        subst e1 e2
        rw [dnI_get _ i d hd]
        refine ⟨G2, .refl s2, ?_⟩
        have e : (0 : Int) + ((j.toNat : Nat) : Int) - 1 + (i : Int) * -1 = ((j.toNat : Nat) : Int) - 1 - i := by omega
        rw [e]
        exact .int _
      · cases hd
    · cases hd
/-! enumerate, zip -/
def enD : Int → List D → List D
  | _, [] => []
  | i, d :: ds => .tup [.int i, d] :: enD (i + 1) ds
theorem enD_len : ∀ (ds : List D) (i : Int), (enD i ds).length = ds.length
  | [], _ => rfl
  | d :: ds, i => by unfold enD; rw [List.length_cons, List.length_cons, enD_len ds]
theorem enD_get : ∀ (ds : List D) (j : Int) (i : Nat) (d : D), (enD j ds)[i]? = some d → ∃ x, ds[i]? = some x ∧ d = .tup [.int (j + i), x]
  | [], _, _, _, h => by simp [enD] at h
  | x :: ds, j, 0, d, h => by
    unfold enD at h
    simp at h
    exact ⟨x, rfl, by rw [← h]; simp⟩
  | x :: ds, j, i + 1, d, h => by
    unfold enD at h
    obtain ⟨y, h1, h2⟩ := enD_get ds (j + 1) i d (by simpa using h)
    refine ⟨y, by simpa using h1, ?_⟩
    rw [h2]
    have e : j + 1 + (i : Int) = j + ((i + 1 : Nat) : Int) := by omega
    rw [e]
def iEnumD (das : List Sl → Option (List D)) : List Sl → Option (List D) := fun ρ => (das ρ).bind fun l => match l with
  | [.tup ds] => some (enD 0 ds)
  | [.lst ds] => some (enD 0 ds)
  | _ => none
theorem pair_rp {G H : Hp} {T : Addr} {x y : V} {a b : D} (s : Same G H) (n : H T = none) (r1 : Rp C A G x a) (r2 : Rp C A G y b) : ∃ G3, Ext G H G3 (upd H T (.tup [x, y])) ∧ Rp C A G3 (.ref T) (.tup [a, b]) := by
  have sg : Same G (upd G T (.tup [x, y])) := same_new (none_of s n) _
  exact ⟨_, .new s n _, .tup upd_same (.cons (r1.mono sg) (.cons (r2.mono sg) .nil))⟩
theorem di_enum {e : Expr} {p tpos : Pos} {elts : List Expr} {kk : Nat} {das : List Sl → Option (List D)} (hg : Gl X "enumerate") (hm : X.mg "enumerate" = none) (ha : PA X [e] (tA C das)) (hs : starEach [e] X.env = [(false, eval e X.env)] := by rfl)
    (hs2 : starEach [e] X.env = (false, eval e X.env) :: starEach [] X.env := by rfl) : PI X (.Tuple elts kk tpos) (.Call (.Name "enumerate" p) [e] [] pos) (tI C (iEnumD das)) :=
  pi_to (pi_or (pi_enum hg hm ha hs) (pi_enumT hg hm ha hs)) fun σ H R ⟨A, H0, G, ρ, z, en, sm, hd, k⟩ => by
    obtain ⟨l, h1, hd⟩ := obind hd
    split at hd
    · cases hd
      refine .inr ⟨A, H0, G, ρ, _, en, sm, h1, fun G1 H1 x x1 r1 => ?_⟩
      cases r1 with
      | cons r1 r2 =>
        cases r2
        cases r1 with
        | tup e r =>
          refine ⟨_, _, rfl, .of (x1.s _ _ e), k _ G1 H1 x1 fun i G2 H2 s1 s2 => ?_⟩
          have eq : SqT X.K H2 _ _ := .of (s2 _ _ (s1 _ _ e))
          refine ⟨fun z => ⟨_, eq, by rw [z, enD_len, r.len]⟩, fun d hd => ?_⟩
          obtain ⟨y, g1, rfl⟩ := enD_get _ _ _ _ hd
          obtain ⟨v, h1, h2⟩ := r.get g1
          refine ⟨⟨_, v, eq, h1⟩, fun x H3 yl => ?_⟩
          obtain ⟨T, x', rfl, nT, rfl, f⟩ := yl
          have := f _ eq
          rw [h1] at this; cases this
          rw [Int.zero_add]
          exact pair_rp s2 nT (.int _) (h2.mono s1)
    · cases hd
      refine .inl ⟨A, H0, G, ρ, _, en, sm, h1, fun G1 H1 x x1 r1 => ?_⟩
      cases r1 with
      | cons r1 r2 =>
        cases r2
        cases r1 with
        | lst e r =>
          refine ⟨_, _, rfl, .of (x1.s _ _ e), k _ G1 H1 x1 fun i G2 H2 s1 s2 => ?_⟩
          have eq : SqL X.K H2 _ _ := .of (s2 _ _ (s1 _ _ e))
          refine ⟨fun z => ⟨_, eq, by rw [z, enD_len, r.len]; exact Nat.le_refl _⟩, fun d hd => ?_⟩
          obtain ⟨y, g1, rfl⟩ := enD_get _ _ _ _ hd
          obtain ⟨v, h1, h2⟩ := r.get g1
          refine ⟨⟨_, v, eq, h1⟩, fun x H3 yl => ?_⟩
          obtain ⟨T, x', rfl, nT, rfl, f⟩ := yl
          have := f _ eq
          rw [h1] at this; cases this
          rw [Int.zero_add]
          exact pair_rp s2 nT (.int _) (h2.mono s1)
    · cases hd
def zipD : List D → List D → List D
  | a :: as, b :: bs => .tup [a, b] :: zipD as bs
  | _, _ => []
theorem zipD_len : ∀ (as bs : List D), (zipD as bs).length = min as.length bs.length
  | [], _ => by simp [zipD]
  | _ :: _, [] => by simp [zipD]
  | a :: as, b :: bs => by unfold zipD; rw [List.length_cons, zipD_len as bs, List.length_cons, List.length_cons]; omega
theorem zipD_get : ∀ (as bs : List D) (i : Nat) (d : D), (zipD as bs)[i]? = some d → ∃ a b, as[i]? = some a ∧ bs[i]? = some b ∧ d = .tup [a, b]
  | [], _, _, _, h => by simp [zipD] at h
  | _ :: _, [], _, _, h => by simp [zipD] at h
  | a :: as, b :: bs, 0, d, h => by
    unfold zipD at h
    simp at h
    exact ⟨a, b, rfl, rfl, h.symm⟩
  | a :: as, b :: bs, i + 1, d, h => by
    unfold zipD at h
    obtain ⟨x, y, h1, h2, h3⟩ := zipD_get as bs i d (by simpa using h)
    exact ⟨x, y, by simpa using h1, by simpa using h2, h3⟩
def iZipD (das : List Sl → Option (List D)) : List Sl → Option (List D) := fun ρ => (das ρ).bind fun l => match l with
  | [.tup a, .tup b] => some (zipD a b)
  | [.lst a, .lst b] => some (zipD a b)
  | [.tup a, .lst b] => some (zipD a b)
  | _ => none
theorem di_zip {e e2 : Expr} {p tpos : Pos} {elts : List Expr} {kk : Nat} {das : List Sl → Option (List D)} (hg : Gl X "zip") (hm : X.mg "zip" = none) (ha : PA X [e, e2] (tA C das))
    (hs : starEach [e, e2] X.env = (false, eval e X.env) :: starEach [e2] X.env := by rfl) (hpl : (backTo pos (starEach [e2] X.env)).any (·.1) = false := by rfl) :
    PI X (.Tuple elts kk tpos) (.Call (.Name "zip" p) [e, e2] [] pos) (tI C (iZipD das)) :=
  pi_to (pi_or (RZ.pi_zipA hg hm ha hs hpl) (KW.pi_zipM hg hm ha hs hpl)) fun σ H R ⟨A, H0, G, ρ, z, en, sm, hd, k⟩ => by
    obtain ⟨l, h1, hd⟩ := obind hd
    split at hd
    · cases hd
      refine .inl ⟨A, H0, G, ρ, _, en, sm, h1, fun G1 H1 x x1 r1 => ?_⟩
      cases r1 with
      | cons r1 r2 =>
        cases r2 with
        | cons r2 r3 =>
          cases r3
          cases r1 with
          | tup e r =>
            cases r2 with
            | tup e' r' =>
              refine ⟨_, _, _, _, rfl, .inr ⟨.of (x1.s _ _ e), .of (x1.s _ _ e'), k _ G1 H1 x1 fun i G2 H2 s1 s2 => ?_⟩⟩
              have eq : SqT X.K H2 _ _ := .of (s2 _ _ (s1 _ _ e))
              have eq' : SqT X.K H2 _ _ := .of (s2 _ _ (s1 _ _ e'))
              have l1 := r.len
              have l2 := r'.len
              refine ⟨fun z => ⟨_, _, eq, eq', by rw [zipD_len] at z; omega⟩, fun d hd => ?_⟩
              obtain ⟨ya, yb, g1, g2, rfl⟩ := zipD_get _ _ _ _ hd
              obtain ⟨v, p1, p2⟩ := r.get g1
              obtain ⟨v', p1', p2'⟩ := r'.get g2
              refine ⟨⟨_, _, v, v', eq, eq', p1, p1'⟩, fun x H3 yl => ?_⟩
              obtain ⟨T, x', y', rfl, nT, rfl, f, f'⟩ := yl
              have t1 := f _ eq
              have t2 := f' _ eq'
              rw [p1] at t1; cases t1
              rw [p1'] at t2; cases t2
              exact pair_rp s2 nT (p2.mono s1) (p2'.mono s1)
    · cases hd
      refine .inl ⟨A, H0, G, ρ, _, en, sm, h1, fun G1 H1 x x1 r1 => ?_⟩
      cases r1 with
      | cons r1 r2 =>
        cases r2 with
        | cons r2 r3 =>
          cases r3
          cases r1 with
          | lst e r =>
            cases r2 with
            | lst e' r' =>
              refine ⟨_, _, _, _, rfl, .inl ⟨.of (x1.s _ _ e), .of (x1.s _ _ e'), k _ G1 H1 x1 fun i G2 H2 s1 s2 => ?_⟩⟩
              have eq : SqL X.K H2 _ _ := .of (s2 _ _ (s1 _ _ e))
              have eq' : SqL X.K H2 _ _ := .of (s2 _ _ (s1 _ _ e'))
              have l1 := r.len
              have l2 := r'.len
              refine ⟨fun z => ⟨_, _, eq, eq', by rw [zipD_len] at z; omega⟩, fun d hd => ?_⟩
              obtain ⟨ya, yb, g1, g2, rfl⟩ := zipD_get _ _ _ _ hd
              obtain ⟨v, p1, p2⟩ := r.get g1
              obtain ⟨v', p1', p2'⟩ := r'.get g2
              refine ⟨⟨_, _, v, v', eq, eq', p1, p1'⟩, fun x H3 yl => ?_⟩
              obtain ⟨T, x', y', rfl, nT, rfl, f, f'⟩ := yl
              have t1 := f _ eq
              have t2 := f' _ eq'
              rw [p1] at t1; cases t1
              rw [p1'] at t2; cases t2
              exact pair_rp s2 nT (p2.mono s1) (p2'.mono s1)
    · cases hd
      refine .inr ⟨A, H0, G, ρ, _, en, sm, h1, fun G1 H1 x x1 r1 => ?_⟩
      cases r1 with
      | cons r1 r2 =>
        cases r2 with
        | cons r2 r3 =>
          cases r3
          cases r1 with
          | tup e r =>
            cases r2 with
            | lst e' r' =>
              refine ⟨_, _, _, _, rfl, .of (x1.s _ _ e), .of (x1.s _ _ e'), k _ G1 H1 x1 fun i G2 H2 s1 s2 => ?_⟩
              have eq : SqT X.K H2 _ _ := .of (s2 _ _ (s1 _ _ e))
              have eq' : SqL X.K H2 _ _ := .of (s2 _ _ (s1 _ _ e'))
              have l1 := r.len
              have l2 := r'.len
              refine ⟨fun z => ⟨_, _, eq, eq', by rw [zipD_len] at z; omega⟩, fun d hd => ?_⟩
              obtain ⟨ya, yb, g1, g2, rfl⟩ := zipD_get _ _ _ _ hd
              obtain ⟨v, p1, p2⟩ := r.get g1
              obtain ⟨v', p1', p2'⟩ := r'.get g2
              refine ⟨⟨_, _, v, v', eq, eq', p1, p1'⟩, fun x H3 yl => ?_⟩
              obtain ⟨T, x', y', rfl, nT, rfl, f, f'⟩ := yl
              have t1 := f _ eq
              have t2 := f' _ eq'
              rw [p1] at t1; cases t1
              rw [p1'] at t2; cases t2
              exact pair_rp s2 nT (p2.mono s1) (p2'.mono s1)
    · cases hd
/-! ### targets -/
def gN (i : Nat) : D → List Sl → Option (List Sl) := fun d ρ => some (ρ.set i (.val d))
theorem wipe_get (σ : L2.St) : ∀ (vs : List Nat) (j : Nat), (wipe σ vs)[j]? = if j ∈ vs then (if j < σ.length then some none else none) else σ[j]?
  | [], j => by simp [wipe]
  | v :: vs, j => by
    have ih := wipe_get σ vs j
    have hl : (wipe σ vs).length = σ.length := wipe_length σ vs
    unfold wipe
    by_cases e : j = v
    · subst e
      rw [if_pos List.mem_cons_self]
      by_cases hj : j < σ.length
      · rw [List.getElem?_set_self (by rw [hl]; exact hj), if_pos hj]
      · rw [if_neg hj, List.getElem?_eq_none (by rw [List.length_set, hl]; omega)]
    · rw [List.getElem?_set_ne (Ne.symm e), ih]
      have : (j ∈ v :: vs) ↔ j ∈ vs := by simp [e]
      simp [this]
theorem wipe_set {σ : L2.St} {i : Nat} {x : Option V} {vs : List Nat} (h : i ∈ vs) : wipe (σ.set i x) vs = wipe σ vs := by
  apply List.ext_getElem?
  intro j
  rw [wipe_get, wipe_get, List.length_set]
  by_cases e : j ∈ vs
  · rw [if_pos e, if_pos e]
  · rw [if_neg e, if_neg e, List.getElem?_set_ne]
    rintro rfl
    exact e h
theorem wipe_idem (σ : L2.St) (vs : List Nat) : wipe (wipe σ vs) vs = wipe σ vs := by
  apply List.ext_getElem?
  intro j
  rw [wipe_get, wipe_get, wipe_length]
  by_cases e : j ∈ vs
  · rw [if_pos e, if_pos e]
  · rw [if_neg e, if_neg e]
theorem dg_name {i : Nat} {x : Str} (hN : X.N.Nodup) (hi : X.N[i]? = some x := by rfl) (hx : Loc X.env.scope x := by first | exact .inl rfl | exact .inr rfl) (hf : X.fn x = true ∨ X.env.scope.names.lookup x = some .local := by first | exact .inl rfl | exact .inr rfl | assumption) : PG X (.Name x pos) (tG C [i] (gN i)) :=
  pg_to (pg_name hN hi hx hf) fun v σ H Q ⟨A, H0, G, ρ, d, ρ', en, sm, r, hd, k⟩ => by
    cases hd
    exact k _ G H (.refl sm) (en.put i r) fun vs h => wipe_set (h i (List.mem_singleton.mpr rfl))
def gnil : List D → List Sl → Option (List Sl)
  | [], ρ => some ρ
  | _, _ => none
def gcons (g : D → List Sl → Option (List Sl)) (gs : List D → List Sl → Option (List Sl)) : List D → List Sl → Option (List Sl)
  | d :: ds, ρ => (g d ρ).bind (gs ds)
  | [], _ => none
theorem dg_nil : PGs X [] (tGs C [] gnil) := pgs_to pgs_nil fun vs σ H Q ⟨A, H0, G, ρ, ds, ρ', en, sm, r, hd, k⟩ => by
  cases r with
  | nil => cases hd; exact ⟨rfl, k σ G H (.refl sm) en fun _ _ => rfl⟩
  | cons _ _ => cases hd
theorem dg_cons {e : Expr} {es : List Expr} {is js : List Nat} {g : D → List Sl → Option (List Sl)} {gs : List D → List Sl → Option (List Sl)} (h1 : PG X e (tG C is g)) (h2 : PGs X es (tGs C js gs))
    (hs : (assignEach (e :: es) X.env).map (·.2) = assign e X.env :: (assignEach es X.env).map (·.2) := by rfl) : PGs X (e :: es) (tGs C (is ++ js) (gcons g gs)) :=
  pgs_to (pgs_cons h1 h2 hs) fun vs σ H Q ⟨A, H0, G, ρ, ds, ρ', en, sm, r, hd, k⟩ => by
    cases r with
    | nil => cases hd
    | cons r1 r2 =>
      obtain ⟨ρ1, h1, hd⟩ := obind hd
      refine ⟨_, _, rfl, A, H0, G, ρ, _, ρ1, en, sm, r1, h1, fun σ1 G1 H1 x1 en1 w1 => ⟨A, H0, G1, ρ1, _, ρ', en1, x1.s, r2.mono x1.g, hd, fun σ2 G2 H2 x2 en2 w2 => k σ2 G2 H2 (x1.trans x2) en2 fun vs h => ?_⟩⟩
      rw [w2 vs fun i hi => h i (List.mem_append_right _ hi), w1 vs fun i hi => h i (List.mem_append_left _ hi)]
def gTu (n : Nat) (gs : List D → List Sl → Option (List Sl)) : D → List Sl → Option (List Sl) := fun d ρ => match d with
  | .tup ds => if ds.length == n then gs ds ρ else none
  | _ => none
theorem dg_tup {es : List Expr} {k : Nat} {is : List Nat} {gs : List D → List Sl → Option (List Sl)} {n : Nat} (hc : X.calm = true) (h : PGs X es (tGs C is gs))
    (hn : (assignEach es X.env).length = n := by rfl) (hst : (assignEach es X.env).findIdx? (·.1) = none := by rfl) : PG X (.Tuple es k pos) (tG C is (gTu n gs)) :=
  pg_to (pg_tup hc h hn hst) fun v σ H Q ⟨A, H0, G, ρ, d, ρ', en, sm, r, hd, k⟩ => by
    unfold gTu at hd
    split at hd
    · split at hd
      · rename_i hl
        cases r with
        | tup e ra => exact ⟨_, _, rfl, .of (sm _ _ e), by rw [ra.len]; exact beq_iff_eq.mp hl, A, H0, G, ρ, _, ρ', en, sm, ra, hd, k⟩
      · cases hd
    · cases hd
/-! ### comprehensions -/
def lcD (g : D → List Sl → Option (List Sl)) (tt : List Sl → Option Bool) (te : List Sl → Option D) (ρ : List Sl) : List D → Option (List D)
  | [] => some []
  | d :: ds => (g d ρ).bind fun ρ1 => (tt ρ1).bind fun b => if b then (te ρ1).bind fun y => (lcD g tt te ρ ds).bind fun r => some (y :: r) else lcD g tt te ρ ds
def dLc (di : List Sl → Option (List D)) (g : D → List Sl → Option (List Sl)) (tt : List Sl → Option Bool) (te : List Sl → Option D) (vs : List Nat) : List Sl → Option D := fun ρ =>
  (di ρ).bind fun ds => if decide (ds.length ≤ szB) then (lcD g tt te (wipeD ρ vs) ds).bind fun r => some (.lst r) else none
def bYes : List Sl → Option Bool := fun _ => some true
theorem dts_nil : PTs X [] (tB C bYes) := ⟨fun pins s σ H Q I ⟨A, H0, G, ρ, b, en, sm, hd, k⟩ => pts_nil.run pins s σ H Q I (by cases hd; exact k G H true (.refl sm) rfl)⟩
theorem dts_one {c : Expr} {t : List Sl → Option Bool} (h : PT X c (tB C t)) : PTs X [c] (tB C t) := pts_one h
theorem lc_ok {is vs : List Nat} {di : List Sl → Option (List D)} {g : D → List Sl → Option (List Sl)} {tt : List Sl → Option Bool} {te : List Sl → Option D} (hv : ∀ i ∈ is, i ∈ vs) :
    ∀ σ H Q, tD C (dLc di g tt te vs) σ H Q → tLc (tI C di) (tG C is g) (tB C tt) (tD C te) vs σ H Q := fun σ H Q ⟨A, H0, G, ρ, d, en, sm, hd, k⟩ => by
  obtain ⟨ds, h1, hd⟩ := obind hd
  split at hd
  · rename_i hz
    obtain ⟨r, h2, hd⟩ := obind hd
    cases hd
    refine ⟨A, H0, G, ρ, ds, en, sm, h1, fun J G1 H1 x1 wk Dl nD => ?_⟩
    have ng : G1 Dl = none := none_of x1.s nD
    refine ⟨fun i m H2 => m = ds.length - i ∧ i ≤ ds.length ∧ ∃ G2 ys rs rest, Ext G1 H1 G2 H2 ∧ G2 Dl = none ∧ H2 Dl = some (.lst ys) ∧ RpAll C A G2 ys rs ∧ rs.length ≤ i ∧ lcD g tt te (wipeD ρ vs) (ds.drop i) = some rest ∧ rs ++ rest = r,
      ⟨ds.length, by simp, Nat.zero_le _, G1, [], [], r, .lay x1.s nD _, ng, upd_same, .nil, Nat.le_refl _, h2, rfl⟩, ?_⟩
    rintro i m H2 ⟨rfl, hi, G2, ys, rs, rest, x2, n2, e2, r2, hrs, hl, happ⟩
    obtain ⟨wstop, wgo⟩ := wk i G2 H2 x2.g x2.s
    by_cases lt : i < ds.length
    · have gd : ds[i]? = some ds[i] := List.getElem?_eq_getElem lt
      obtain ⟨go, yl⟩ := wgo _ gd
      rw [List.drop_eq_getElem_cons lt] at hl
      unfold lcD at hl
      obtain ⟨ρ1, g1, hl⟩ := obind hl
      obtain ⟨b, t1, hl⟩ := obind hl
      refine .inr ⟨go, fun H' => ∃ G2 ys rs rest, Ext G1 H1 G2 H' ∧ G2 Dl = none ∧ H' Dl = some (.lst ys) ∧ RpAll C A G2 ys rs ∧ rs.length ≤ i + 1 ∧ lcD g tt te (wipeD ρ vs) (ds.drop (i + 1)) = some rest ∧ rs ++ rest = r,
        fun H' hN => ⟨ds.length - (i + 1), by omega, rfl, lt, hN⟩, fun x H3 hy => ?_⟩
      obtain ⟨G3, x3, r3⟩ := yl x H3 hy
      have en3 : En C A H0 G3 H3 (wipe σ vs) (wipeD ρ vs) := (((en.ext x1).ext x2).ext x3).wipe vs
      refine ⟨A, H0, G3, _, _, ρ1, en3, x3.s, r3, g1, fun σ4 G4 H4 x4 en4 w4 => ⟨by rw [w4 vs hv, wipe_idem], A, H0, G4, ρ1, b, en4, x4.s, t1, fun G5 H5 v x5 hv5 => ?_⟩⟩
      obtain rfl : v = b := hv5
      have n5 : G5 Dl = none := x5.f _ _ (x4.h _ _ (x3.h _ _ e2)) (x4.f _ _ (x3.h _ _ e2) (x3.f _ _ e2 n2))
      have X5 : Ext G1 H1 G5 H5 := ((x2.trans x3).trans x4).trans x5
      have e5 : H5 Dl = some (.lst ys) := x5.h _ _ (x4.h _ _ (x3.h _ _ e2))
      have r5 : RpAll C A G5 ys rs := (r2.mono x3.g).mono (x4.g.trans x5.g)
      cases v with
      | true =>
        obtain ⟨y, t2, hl⟩ := obind (show ((te ρ1).bind fun y => (lcD g tt te (wipeD ρ vs) (ds.drop (i + 1))).bind fun r => some (y :: r)) = some rest by simpa using hl)
        obtain ⟨rest', t3, hl⟩ := obind hl
        cases hl
        rw [if_pos rfl]
        refine ⟨A, H0, G5, ρ1, y, en4.ext x5, x5.s, t2, fun G6 H6 yv x6 r6 => ?_⟩
        have e6 : H6 Dl = some (.lst ys) := x6.h _ _ e5
        have n6 : G6 Dl = none := x6.f _ _ e5 n5
        have X6 := X5.trans x6
        have hlen : ys.length < sizeLine := by
          rw [r5.len]
          have hz' : ds.length ≤ szB := of_decide_eq_true hz
          exact sz_lt (decide_eq_true (show rs.length ≤ szB by omega))
        refine ⟨ys, e6, hlen, G6, ys ++ [yv], rs ++ [y], rest', ⟨X6.g, fun b o q => ?_, fun b o q => ?_, X6.f⟩, n6, upd_same, (r5.mono x6.g).append (.cons r6 .nil), ?_, t3, ?_⟩
        · rw [upd_ne (fun z => by rw [z, n6] at q; cases q)]; exact X6.s _ _ q
        · rw [upd_ne (ne_of_none q nD)]; exact X6.h _ _ q
        · rw [List.length_append, List.length_singleton]; omega
        · rw [List.append_assoc]; exact happ
      | false =>
        rw [if_neg Bool.false_ne_true]
        exact ⟨G5, ys, rs, rest, X5, n5, e5, r5, by omega, by simpa using hl, happ⟩
    · have ei : i = ds.length := by omega
      subst ei
      rw [List.drop_length] at hl
      cases hl
      rw [List.append_nil] at happ
      subst happ
      refine .inl ⟨wstop rfl, k (upd G2 Dl (.lst ys)) H2 _ ⟨fun b o q => ?_, fun b o q => ?_, x1.h.trans x2.h, fun b o q q' => ?_⟩ (.lst upd_same (r2.mono (same_new n2 _)))⟩
      · rw [upd_ne (fun z => by rw [z] at q; have := x2.g _ _ (x1.g _ _ q); rw [n2] at this; cases this)]; exact x2.g _ _ (x1.g _ _ q)
      · by_cases z : b = Dl
        · subst z; rw [upd_same] at q; cases q; exact e2
        · rw [upd_ne z] at q; exact x2.s _ _ q
      · rw [upd_ne (ne_of_none (x1.h _ _ q) nD)]
        exact x2.f _ _ (x1.h _ _ q) (x1.f _ _ q q')
  · cases hd
theorem dn_lc {elt tg iter : Expr} {ifs : List Expr} {scope : Scope} {own : List (Str × Nat)} {is : List Nat} {di : List Sl → Option (List D)} {g : D → List Sl → Option (List Sl)} {tt : List Sl → Option Bool} {te : List Sl → Option D} (hc : X.calm = true) (hN : X.N.Nodup) (hi : PI X tg iter (tI C di)) (ok : BlkOk X.N X.env.scope scope own)
    (hg : ∀ (s : Shared) (H : Hp) (A : Addr) (cl : List (Str × Addr)) (fp : List Addr), PG (X.blk s H scope (compEnvC scope cl A X.env) fp) tg (tG C is g)) (ht : ∀ (s : Shared) (H : Hp) (A : Addr) (cl : List (Str × Addr)) (fp : List Addr), PTs (X.blk s H scope (compEnvC scope cl A X.env) fp) ifs (tB C tt))
    (he : ∀ (s : Shared) (H : Hp) (A : Addr) (cl : List (Str × Addr)) (fp : List Addr), PE (X.blk s H scope (compEnvC scope cl A X.env) fp) elt (tD C te)) (hv : ∀ i ∈ is, i ∈ own.map (·.2) := by decide) (hs : ∀ x, foldedSetIterable iter X.env x = pure x := by intro _; rfl) :
    PE X (.ListComp elt [⟨tg, iter, ifs, 0⟩] scope pos) (tD C (dLc di g tt te (own.map (·.2)))) :=
  pe_to (pe_lc hc hN hi ok hg ht he hs) (lc_ok hv)
end
end DN

set_option maxHeartbeats 1000000
/-! statements and defs by what they compute -/
namespace DN
open PySem PySem.Spec PyProof.Rows L2 KG
section
variable {X : Cx} {C : Addr} {A : List Addr} {pos : Pos}
def sSet (i : Nat) (de : List Sl → Option D) : List Sl → Option Out := fun ρ => (de ρ).bind fun d => some (.nx (ρ.set i (.val d)))
theorem ds_set {i : Nat} {x : Str} {e : Expr} {de : List Sl → Option D} {pos' : Pos} (hN : X.N.Nodup) (he : PE X e (tD C de)) (hi : X.N[i]? = some x := by rfl) (hx : Loc X.env.scope x := by first | exact .inl rfl | exact .inr rfl) (hs : swapsWith e (some (.Name x pos')) pos.line X.env = pure false := by rfl) (hf : X.fn x = true ∨ X.env.scope.names.lookup x = some .local := by first | exact .inl rfl | exact .inr rfl | assumption) :
    PS X (.Assign [.Name x pos'] e pos) (tS C (sSet i de)) :=
  ps_to (ps_set hN hi hx he hs hf) fun E σ H ⟨A, G0, H0, G, ρ, o, x0, en, hd, fin⟩ => by
    obtain ⟨d, h1, hd⟩ := obind hd
    cases hd
    exact ⟨A, H0, G, ρ, d, en, x0.s, h1, fun G1 H1 v x1 r1 => fin G1 H1 _ x1.g (x0.trans x1) ((en.ext x1).put i r1)⟩
def sAsg (de : List Sl → Option D) (g : D → List Sl → Option (List Sl)) : List Sl → Option Out := fun ρ => (de ρ).bind fun d => (g d ρ).bind fun ρ' => some (.nx ρ')
theorem ds_asg {tg e : Expr} {de : List Sl → Option D} {is : List Nat} {g : D → List Sl → Option (List Sl)} (he : PE X e (tD C de)) (hg : PG X tg (tG C is g)) (hs : swapsWithSole [tg] e pos.line X.env = pure false := by rfl) (hw : swappedStores [tg] e X.env = pure none := by rfl)
    (h1 : (assignEach [tg] X.env).map (·.2) = [assign tg X.env] := by rfl) : PS X (.Assign [tg] e pos) (tS C (sAsg de g)) :=
  ps_to (ps_asg he hg hs hw h1) fun E σ H ⟨A, G0, H0, G, ρ, o, x0, en, hd, fin⟩ => by
    obtain ⟨d, h1, hd⟩ := obind hd
    obtain ⟨ρ', h2, hd⟩ := obind hd
    cases hd
    exact ⟨A, H0, G, ρ, d, en, x0.s, h1, fun G1 H1 v x1 r1 => ⟨A, H0, G1, ρ, d, ρ', en.ext x1, x1.s, r1, h2, fun σ2 G2 H2 x2 en2 _ => fin G2 H2 σ2 (x1.g.trans x2.g) ((x0.trans x1).trans x2) en2⟩⟩
def sAsg2 (de : List Sl → Option D) (g h : D → List Sl → Option (List Sl)) : List Sl → Option Out := fun ρ => (de ρ).bind fun d => (g d ρ).bind fun ρ1 => (h d ρ1).bind fun ρ' => some (.nx ρ')
theorem ds_asg2 {t1 t2 e : Expr} {de : List Sl → Option D} {is js : List Nat} {g h : D → List Sl → Option (List Sl)} (he : PE X e (tD C de)) (h1 : PG X t1 (tG C is g)) (h2 : PG X t2 (tG C js h)) (ha : (assignEach [t1, t2] X.env).map (·.2) = [assign t1 X.env, assign t2 X.env] := by rfl) (hw : swappedStores [t1, t2] e X.env = pure none := by rfl) : PS X (.Assign [t1, t2] e pos) (tS C (sAsg2 de g h)) :=
  ps_to (ps_asg2 he h1 h2 ha hw) fun E σ H ⟨A, G0, H0, G, ρ, o, x0, en, hd, fin⟩ => by
    obtain ⟨d, h1, hd⟩ := obind hd
    obtain ⟨ρ1, h2, hd⟩ := obind hd
    obtain ⟨ρ', h3, hd⟩ := obind hd
    cases hd
    exact ⟨A, H0, G, ρ, d, en, x0.s, h1, fun G1 H1 v x1 r1 => ⟨A, H0, G1, ρ, d, ρ1, en.ext x1, x1.s, r1, h2, fun σ2 G2 H2 x2 en2 _ => ⟨A, H0, G2, ρ1, d, ρ', en2, x2.s, r1.mono x2.g, h3, fun σ3 G3 H3 x3 en3 _ => fin G3 H3 σ3 ((x1.g.trans x2.g).trans x3.g) (((x0.trans x1).trans x2).trans x3) en3⟩⟩⟩
def sRet (de : List Sl → Option D) : List Sl → Option Out := fun ρ => (de ρ).bind fun d => some (.rt d)
theorem ds_ret {e : Expr} {de : List Sl → Option D} (he : PE X e (tD C de)) : PS X (.Return (some e) pos) (tS C (sRet de)) :=
  ps_to (ps_ret he) fun E σ H ⟨A, G0, H0, G, ρ, o, x0, en, hd, fin⟩ => by
    obtain ⟨d, h1, hd⟩ := obind hd
    cases hd
    exact ⟨A, H0, G, ρ, d, en, x0.s, h1, fun G1 H1 v x1 r1 => fin G1 H1 v (x0.trans x1) r1⟩
def sRetN : List Sl → Option Out := fun _ => some (.rt .non)
theorem ds_retN : PS X (.Return none pos) (tS C sRetN) :=
  ps_to ps_retN fun E σ H ⟨A, G0, H0, G, ρ, o, x0, en, hd, fin⟩ => by cases hd; exact fin G H .non x0 .non
def sNext : List Sl → Option Out := fun ρ => some (.nx ρ)
def sBrk : List Sl → Option Out := fun ρ => some (.bk ρ)
def sCnt : List Sl → Option Out := fun ρ => some (.ct ρ)
def sNone : List Sl → Option Out := fun _ => none
theorem ds_nil : PSs X [] (tS C sNext) := pss_to pss_nil fun E σ H ⟨A, G0, H0, G, ρ, o, x0, en, hd, fin⟩ => by cases hd; exact fin G H σ (fun _ _ h => h) x0 en
theorem ds_break : PS X (.Break pos) (tS C sBrk) := ps_to ps_break fun E σ H ⟨A, G0, H0, G, ρ, o, x0, en, hd, fin⟩ => by cases hd; exact fin G H σ (fun _ _ h => h) x0 en
theorem ds_continue : PS X (.Continue pos) (tS C sCnt) := ps_to ps_continue fun E σ H ⟨A, G0, H0, G, ρ, o, x0, en, hd, fin⟩ => by cases hd; exact fin G H σ (fun _ _ h => h) x0 en
theorem ds_pass : PS X (.Pass pos) (tS C sNext) := ps_to ps_pass fun E σ H ⟨A, G0, H0, G, ρ, o, x0, en, hd, fin⟩ => by cases hd; exact fin G H σ (fun _ _ h => h) x0 en
/-- code that is not come to -/
theorem dss_nev {ss : List Stmt} : PSs X ss (tS C sNone) := pss_to pss_nev fun E σ H ⟨A, G0, H0, G, ρ, o, x0, en, hd, fin⟩ => by cases hd
theorem ds_nev {s : Stmt} : PS X s (tS C sNone) := ps_to ps_nev fun E σ H ⟨A, G0, H0, G, ρ, o, x0, en, hd, fin⟩ => by cases hd
def dNev : List Sl → Option D := fun _ => none
theorem dn_nev {e : Expr} : PE X e (tD C dNev) := pe_to pe_nev fun E σ H ⟨A, H0, G, ρ, d, en, sm, hd, k⟩ => by cases hd
def sSeq (d e : List Sl → Option Out) : List Sl → Option Out := fun ρ => (d ρ).bind fun o => match o with
  | .nx ρ' => e ρ'
  | o => some o
theorem ds_cons {st : Stmt} {rest : List Stmt} {d e : List Sl → Option Out} (h1 : PS X st (tS C d)) (h2 : PSs X rest (tS C e)) : PSs X (st :: rest) (tS C (sSeq d e)) :=
  pss_to (pss_cons h1 h2) fun E σ H ⟨A, G0, H0, G, ρ, o, x0, en, hd, fin⟩ => by
    obtain ⟨o1, h1, hd⟩ := obind hd
    refine ⟨A, G0, H0, G, ρ, o1, x0, en, h1, ?_⟩
    cases o1 with
    | nx ρ1 => exact fun G1 H1 σ1 s1 x1 en1 => ⟨A, G0, H0, G1, ρ1, o, x1, en1, hd, fin.mono s1⟩
    | rt d => cases hd; exact fin
    | bk ρ1 => cases hd; exact fin
    | ct ρ1 => cases hd; exact fin
theorem ds_one {st : Stmt} {d : List Sl → Option Out} (h1 : PS X st (tS C d)) : PSs X [st] (tS C d) := pss_one h1
def sIf (c : List Sl → Option Bool) (d e : List Sl → Option Out) : List Sl → Option Out := fun ρ => (c ρ).bind fun b => if b then d ρ else e ρ
theorem ds_if {c : Expr} {a b : List Stmt} {dc : List Sl → Option Bool} {d e : List Sl → Option Out} (hc : PT X c (tB C dc)) (ha : PSs X a (tS C d)) (hb : PSs X b (tS C e)) : PS X (.If c a b pos) (tS C (sIf dc d e)) :=
  ps_to (ps_if hc ha hb) fun E σ H ⟨A, G0, H0, G, ρ, o, x0, en, hd, fin⟩ => by
    obtain ⟨b, h1, hd⟩ := obind hd
    refine ⟨A, H0, G, ρ, b, en, x0.s, h1, fun G1 H1 v x1 r1 => ?_⟩
    obtain rfl : v = b := r1
    cases v with
    | true => exact ⟨A, G0, H0, G1, ρ, o, x0.trans x1, en.ext x1, by simpa using hd, fin.mono x1.g⟩
    | false => exact ⟨A, G0, H0, G1, ρ, o, x0.trans x1, en.ext x1, by simpa using hd, fin.mono x1.g⟩
/-! ### loops -/
def forD (g : D → List Sl → Option (List Sl)) (body : List Sl → Option Out) : List D → List Sl → Option Out
  | [], ρ => some (.nx ρ)
  | d :: ds, ρ => (g d ρ).bind fun ρ1 => (body ρ1).bind fun o => match o with
    | .nx ρ2 => forD g body ds ρ2
    | .ct ρ2 => forD g body ds ρ2
    | .bk ρ2 => some (.nx ρ2)
    | .rt d => some (.rt d)
def sFor (di : List Sl → Option (List D)) (g : D → List Sl → Option (List Sl)) (body : List Sl → Option Out) : List Sl → Option Out := fun ρ => (di ρ).bind fun ds => forD g body ds ρ
theorem ds_for {tg iter : Expr} {body : List Stmt} {is : List Nat} {di : List Sl → Option (List D)} {g : D → List Sl → Option (List Sl)} {db : List Sl → Option Out} (hp : PassesOwn (model X.prog X.w) X.A X.env X.xe) (hc : X.calm = true) (hi : PI X tg iter (tI C di)) (hg : PG X tg (tG C is g)) (hb : PSs X body (tS C db))
    (hs : ∀ x, foldedSetIterable iter X.env x = pure x := by intro _; rfl) : PS X (.For tg iter body [] pos) (tS C (sFor di g db)) :=
  ps_to (ps_for hp hc hi hg hb hs) fun E σ H ⟨A, G0, H0, G, ρ, o, x0, en, hd, fin⟩ => by
    obtain ⟨ds, h1, hd⟩ := obind hd
    refine ⟨A, H0, G, ρ, ds, en, x0.s, h1, fun J G1 H1 x1 wk => ?_⟩
    refine ⟨fun i m σ2 H2 => m = ds.length - i ∧ i ≤ ds.length ∧ ∃ G2 ρ2, Same G1 G2 ∧ Ext G0 H0 G2 H2 ∧ En C A H0 G2 H2 σ2 ρ2 ∧ forD g db (ds.drop i) ρ2 = some o,
      ⟨ds.length, by simp, Nat.zero_le _, G1, ρ, fun _ _ h => h, x0.trans x1, en.ext x1, hd⟩, ?_⟩
    rintro i m σ2 H2 ⟨rfl, hi, G2, ρ2, s2, x2, en2, hf⟩
    obtain ⟨wstop, wgo⟩ := wk i G2 H2 s2 x2.s
    by_cases lt : i < ds.length
    · have gd : ds[i]? = some ds[i] := List.getElem?_eq_getElem lt
      obtain ⟨go, yl⟩ := wgo _ gd
      rw [List.drop_eq_getElem_cons lt] at hf
      unfold forD at hf
      obtain ⟨ρ3, g1, hf⟩ := obind hf
      obtain ⟨o3, b1, hf⟩ := obind hf
      refine .inr ⟨go, fun σ' H' => ∃ G2 ρ2, Same G1 G2 ∧ Ext G0 H0 G2 H' ∧ En C A H0 G2 H' σ' ρ2 ∧ forD g db (ds.drop (i + 1)) ρ2 = some o, fun σ' H' hN => ⟨ds.length - (i + 1), by omega, rfl, lt, hN⟩, fun x H3 hy => ?_⟩
      obtain ⟨G3, x3, r3⟩ := yl x H3 hy
      refine ⟨A, H0, G3, ρ2, _, ρ3, en2.ext x3, x3.s, r3, g1, fun σ4 G4 H4 x4 en4 _ => ⟨A, G0, H0, G4, ρ3, o3, (x2.trans x3).trans x4, en4, b1, ?_⟩⟩
      have s4 : Same G1 G4 := (s2.trans x3.g).trans x4.g
      cases o3 with
      | nx ρ5 => exact fun G5 H5 σ5 s5 x5 en5 => ⟨G5, ρ5, s4.trans s5, x5, en5, hf⟩
      | ct ρ5 => exact fun G5 H5 σ5 s5 x5 en5 => ⟨G5, ρ5, s4.trans s5, x5, en5, hf⟩
      | bk ρ5 => cases hf; exact fun G5 H5 σ5 s5 x5 en5 => fin G5 H5 σ5 ((x1.g.trans s4).trans s5) x5 en5
      | rt d => cases hf; exact fin
    · have ei : i = ds.length := by omega
      subst ei
      rw [List.drop_length] at hf
      cases hf
      exact .inl ⟨wstop rfl, fin G2 H2 σ2 (x1.g.trans s2) x2 en2⟩
def whileD (c : List Sl → Option Bool) (body : List Sl → Option Out) : Nat → List Sl → Option Out
  | 0, _ => none
  | n + 1, ρ => (c ρ).bind fun b => if b then (body ρ).bind fun o => match o with
      | .nx ρ2 => whileD c body n ρ2
      | .ct ρ2 => whileD c body n ρ2
      | .bk ρ2 => some (.nx ρ2)
      | .rt d => some (.rt d)
    else some (.nx ρ)
theorem ds_while {c : Expr} {body : List Stmt} {dc : List Sl → Option Bool} {db : List Sl → Option Out} (n : Nat) (hp : PassesOwn (model X.prog X.w) X.A X.env X.xe) (hc : PT X c (tB C dc)) (hb : PSs X body (tS C db)) : PS X (.While c body [] pos) (tS C (whileD dc db n)) :=
  ps_to (ps_while hp hc hb) fun E σ H ⟨A, G0, H0, G, ρ, o, x0, en, hd, fin⟩ => by
    refine ⟨fun m σ2 H2 => ∃ G2 ρ2, Same G G2 ∧ Ext G0 H0 G2 H2 ∧ En C A H0 G2 H2 σ2 ρ2 ∧ whileD dc db m ρ2 = some o, ⟨n, G, ρ, fun _ _ h => h, x0, en, hd⟩, ?_⟩
    rintro m σ2 H2 ⟨G2, ρ2, s2, x2, en2, hf⟩
    cases m with
    | zero => cases hf
    | succ m =>
      unfold whileD at hf
      obtain ⟨b, c1, hf⟩ := obind hf
      refine ⟨A, H0, G2, ρ2, b, en2, x2.s, c1, fun G3 H3 v x3 r3 => ?_⟩
      obtain rfl : v = b := r3
      cases v with
      | true =>
        obtain ⟨o3, b1, hf⟩ := obind (by simpa using hf)
        rw [if_pos rfl]
        refine ⟨fun σ' H' => ∃ G2 ρ2, Same G G2 ∧ Ext G0 H0 G2 H' ∧ En C A H0 G2 H' σ' ρ2 ∧ whileD dc db m ρ2 = some o, fun σ' H' hN => ⟨m, Nat.lt_succ_self _, hN⟩, A, G0, H0, G3, ρ2, o3, x2.trans x3, en2.ext x3, b1, ?_⟩
        have s4 : Same G G3 := s2.trans x3.g
        cases o3 with
        | nx ρ5 => exact fun G5 H5 σ5 s5 x5 en5 => ⟨G5, ρ5, s4.trans s5, x5, en5, hf⟩
        | ct ρ5 => exact fun G5 H5 σ5 s5 x5 en5 => ⟨G5, ρ5, s4.trans s5, x5, en5, hf⟩
        | bk ρ5 => cases hf; exact fun G5 H5 σ5 s5 x5 en5 => fin G5 H5 σ5 (s4.trans s5) x5 en5
        | rt d => cases hf; exact fin
      | false =>
        have : o = .nx ρ2 := by simpa using hf.symm
        subst this
        rw [if_neg Bool.false_ne_true]
        exact fin G3 H3 σ2 (s2.trans x3.g) (x2.trans x3) (en2.ext x3)
/-! name op= e, of ints -/
def sAug (i : Nat) (f : Int → Int → Int) (de : List Sl → Option D) : List Sl → Option Out := fun ρ => (dV i ρ).bind fun a => (de ρ).bind fun b => (fI20 f a b).bind fun d => some (.nx (ρ.set i (.val d)))
theorem ds_aug {i : Nat} {x : Str} {e : Expr} {de : List Sl → Option D} {op : Operator} {f : Int → Int → Int} {pos' : Pos} (hN : X.N.Nodup) (he : PE X e (tD C de)) (ho : PIp X op (ipI f)) (hi : X.N[i]? = some x := by rfl) (hx : Loc X.env.scope x := by first | exact .inl rfl | exact .inr rfl) (hf : X.fn x = true ∨ X.env.scope.names.lookup x = some .local := by first | exact .inl rfl | exact .inr rfl | assumption) :
    PS X (.AugAssign (.Name x pos') op e pos) (tS C (sAug i f de)) :=
  ps_to (ps_aug hN hi hx he ho hf) fun E σ H ⟨A, G0, H0, G, ρ, o, x0, en, hd, fin⟩ => by
    obtain ⟨a, h1, hd⟩ := obind hd
    obtain ⟨b, h2, hd⟩ := obind hd
    obtain ⟨d, h3, hd⟩ := obind hd
    cases hd
    unfold fI20 at h3
    split at h3
    · cases h3
      unfold dV at h1
      split at h1
      · rename_i d' hi
        cases h1
        obtain ⟨v, p1, p2⟩ := en.val i _ hi
        cases p2
        refine ⟨_, p1, A, H0, G, ρ, _, en, x0.s, h2, fun G1 H1 y x1 r1 => ?_⟩
        cases r1
        exact ⟨_, _, rfl, rfl, fin G1 H1 _ x1.g (x0.trans x1) ((en.ext x1).put i (.int _))⟩
      · cases h1
    · cases h3
/-! ### lists of one's own -/
def sNew (i : Nat) (das : List Sl → Option (List D)) : List Sl → Option Out := fun ρ => (das ρ).bind fun ds => if decide (ds.length ≤ szB) then some (.nx (ρ.set i (.own ds))) else none
theorem ds_new {i : Nat} {x : Str} {es : List Expr} {das : List Sl → Option (List D)} {pos' lpos : Pos} (hN : X.N.Nodup) (he : PA X es (tA C das)) (hi : X.N[i]? = some x := by rfl) (hx : Loc X.env.scope x := by first | exact .inl rfl | exact .inr rfl) (hs : swapsWith (.List es lpos) (some (.Name x pos')) pos.line X.env = pure false := by rfl) (hf : X.fn x = true ∨ X.env.scope.names.lookup x = some .local := by first | exact .inl rfl | exact .inr rfl | assumption) :
    PS X (.Assign [.Name x pos'] (.List es lpos) pos) (tS C (sNew i das)) :=
  ps_to (ps_set hN hi hx (pe_lst he) hs hf) fun E σ H ⟨A, G0, H0, G, ρ, o, x0, en, hd, fin⟩ => by
    obtain ⟨ds, h1, hd⟩ := obind hd
    obtain ⟨hz, rfl⟩ := oif hd
    refine ⟨A, H0, G, ρ, ds, en, x0.s, h1, fun G1 H1 vs x1 r1 => ⟨by rw [r1.len]; exact sz_ok hz, fun p np => ?_⟩⟩
    have X1 := x0.trans x1
    have n0 : H0 p = none := by
      cases q : H0 p with
      | none => rfl
      | some u => rw [X1.h _ _ q] at np; cases np
    exact fin G1 _ _ x1.g (X1.trans (.lay x1.s np _)) ((en.ext x1).putOwn i np n0 x1.s r1)
def ownD (i : Nat) : List Sl → Option (List D) := fun ρ => match ρ[i]? with
  | some (.own ds) => some ds
  | _ => none
theorem ownD_ok {i : Nat} {ρ : List Sl} {ds : List D} (h : ownD i ρ = some ds) : ρ[i]? = some (.own ds) := by
  unfold ownD at h
  split at h
  · rename_i q; cases h; exact q
  · cases h
def sApp (i : Nat) (de : List Sl → Option D) : List Sl → Option Out := fun ρ => (ownD i ρ).bind fun ds => (de ρ).bind fun d => if decide (ds.length ≤ szB) then some (.nx (ρ.set i (.own (ds ++ [d])))) else none
theorem grow_ext {G0 H0 G H : Hp} {a : Addr} {us : List V} (x : Ext G0 H0 G H) (n : G a = none) (n0 : H0 a = none) : Ext G0 H0 G (upd H a (.lst us)) :=
  ⟨x.g, fun b o q => by rw [upd_ne (fun z => by rw [z, n] at q; cases q)]; exact x.s _ _ q, fun b o q => by rw [upd_ne (ne_of_none q n0)]; exact x.h _ _ q, x.f⟩
theorem ds_app {i : Nat} {x : Str} {e : Expr} {de : List Sl → Option D} {apos epos p : Pos} (he : PE X e (tD C de)) (hi : X.N[i]? = some x := by rfl) (hv : Vis X.env.scope x := by first | exact .inl rfl | exact .inr (.inl rfl) | exact .inr (.inr rfl)) (hd : (x == ("__debug__" : Str)) = false := by decide) (hcd : (x == ("__classdict__" : Str)) = false := by decide)
    (hps : ∀ {t : TE}, PE X (.Call (.Attribute (.Name x p) "append" apos) [e] [] epos) t → PS X (.Expr (.Call (.Attribute (.Name x p) "append" apos) [e] [] epos) pos) (tDrop t))
    (hpe : ∀ {to : TE} {t : TA}, PE X (.Name x p) to → PA X [e] t → PE X (.Call (.Attribute (.Name x p) "append" apos) [e] [] epos) (tBM X.K "list" rAppend to t))
    (hst : starEach [e] X.env = (false, eval e X.env) :: starEach [] X.env := by rfl) :
    PS X (.Expr (.Call (.Attribute (.Name x p) "append" apos) [e] [] epos) pos) (tS C (sApp i de)) :=
  ps_to (hps (hpe (pe_var hi hv hd hcd) (pa_cons he pa_nil hst))) fun E σ H ⟨A, G0, H0, G, ρ, o, x0, en, hd, fin⟩ => by
    obtain ⟨ds, h1, hd⟩ := obind hd
    obtain ⟨d, h2, hd⟩ := obind hd
    obtain ⟨hz, rfl⟩ := oif hd
    have ho := ownD_ok h1
    obtain ⟨a, vs, p1, p2, p3, p4, p5, p6⟩ := en.own i ds ho
    refine ⟨_, p1, .inl ⟨rfl, vs, .of p2⟩, A, H0, G, ρ, d, en, x0.s, h2, fun G1 H1 v x1 r1 => ?_⟩
    have q2 := x1.h _ _ p2
    have q3 := x1.f _ _ p2 p3
    refine ⟨a, vs, v, rfl, rfl, q2, by rw [p5.len]; exact sz_lt hz, ?_⟩
    exact fin G1 _ σ x1.g (grow_ext (x0.trans x1) q3 p4) ((en.ext x1).grow ho p1 ((p5.mono x1.g).append (.cons r1 .nil)))
/-- x = xs.pop() -/
def sPop (i j : Nat) : List Sl → Option Out := fun ρ => (ownD j ρ).bind fun ds => (ds[ds.length - 1]?).bind fun d => some (.nx ((ρ.set j (.own ds.dropLast)).set i (.val d)))
theorem ds_pop {i j : Nat} {x y : Str} {e : Expr} {pos' p : Pos} (hN : X.N.Nodup) (hpe : ∀ {to : TE}, PE X (.Name y p) to → PE X e (tBM0 X.K "list" rPop to)) (hi : X.N[i]? = some x := by rfl) (hj : X.N[j]? = some y := by rfl) (hv : Vis X.env.scope y := by first | exact .inl rfl | exact .inr (.inl rfl) | exact .inr (.inr rfl)) (hd : (y == ("__debug__" : Str)) = false := by decide) (hcd : (y == ("__classdict__" : Str)) = false := by decide)
    (hx : Loc X.env.scope x := by first | exact .inl rfl | exact .inr rfl) (hs : swapsWith e (some (.Name x pos')) pos.line X.env = pure false := by rfl) (hf : X.fn x = true ∨ X.env.scope.names.lookup x = some .local := by first | exact .inl rfl | exact .inr rfl | assumption) :
    PS X (.Assign [.Name x pos'] e pos) (tS C (sPop i j)) :=
  ps_to (ps_set hN hi hx (hpe (pe_var hj hv hd hcd)) hs hf) fun E σ H ⟨A, G0, H0, G, ρ, o, x0, en, hd, fin⟩ => by
    obtain ⟨ds, h1, hd⟩ := obind hd
    obtain ⟨d, h2, hd⟩ := obind hd
    cases hd
    have ho := ownD_ok h1
    obtain ⟨a, vs, p1, p2, p3, p4, p5, p6⟩ := en.own j ds ho
    obtain ⟨v, q1, q2⟩ := p5.get h2
    rw [← p5.len] at q1
    refine ⟨_, p1, .inl ⟨rfl, vs, .of p2⟩, a, vs, v, rfl, rfl, p2, q1, ?_⟩
    exact fin G _ _ (fun _ _ h => h) (grow_ext x0 p3 p4) ((en.grow ho p1 p5.dropLast).put i q2)
/-- from here on the list at slot i stands for good -/
def sFrz (i : Nat) (den : List Sl → Option Out) : List Sl → Option Out := fun ρ => (ownD i ρ).bind fun ds => den (ρ.set i (.val (.lst ds)))
theorem dss_frz {i : Nat} {sts : List Stmt} {den : List Sl → Option Out} (h : PSs X sts (tS C den)) : PSs X sts (tS C (sFrz i den)) :=
  pss_to h fun E σ H ⟨A, G0, H0, G, ρ, o, x0, en, hd, fin⟩ => by
    obtain ⟨ds, h1, hd⟩ := obind hd
    have ho := ownD_ok h1
    obtain ⟨a, vs, p1, p2, p3, p4, p5, p6⟩ := en.own i ds ho
    obtain ⟨en2, s2, s3⟩ := en.freeze x0.s ho p1 p2 p5
    exact ⟨A, G0, H0, _, _, o, ⟨x0.g.trans s2, s3, x0.h, fun b u q q' => by rw [upd_ne (ne_of_none q p4)]; exact x0.f _ _ q q'⟩, en2, hd, fin.mono s2⟩
/-- reading one's own list -/
def dIxO (i : Nat) (db : List Sl → Option D) : List Sl → Option D := fun ρ => (ownD i ρ).bind fun ds => (db ρ).bind fun b => fIx (.lst ds) b
theorem dn_ixO {i : Nat} {x : Str} {b : Expr} {db : List Sl → Option D} {p : Pos} (hb : PE X b (tD C db)) (hs : PlainIx b) (hi : X.N[i]? = some x := by rfl) (hv : Vis X.env.scope x := by first | exact .inl rfl | exact .inr (.inl rfl) | exact .inr (.inr rfl)) (hd : (x == ("__debug__" : Str)) = false := by decide) (hcd : (x == ("__classdict__" : Str)) = false := by decide) : PE X (.Subscript (.Name x p) b pos) (tD C (dIxO i db)) :=
  pe_to (pe_ix ix_list (pe_var hi hv hd hcd) hb hs) fun σ H Q ⟨A, H0, G, ρ, d, en, sm, hd, k⟩ => by
    obtain ⟨ds, h1, hd⟩ := obind hd
    obtain ⟨j, h2, hd⟩ := obind hd
    have ho := ownD_ok h1
    obtain ⟨a, vs, p1, p2, p3, p4, p5, p6⟩ := en.own i ds ho
    refine ⟨_, p1, A, H0, G, ρ, j, en, sm, h2, fun G1 H1 y x1 r1 => ?_⟩
    cases j with
    | int n =>
      cases r1
      obtain ⟨v, g1, g2⟩ := at_rp p5 (show atI ds n = some d from hd)
      exact ⟨a, vs, _, v, rfl, rfl, .of (x1.h _ _ p2), g1, k G1 H1 v x1 (g2.mono x1.g)⟩
    | _ => cases hd
def dLenO (i : Nat) : List Sl → Option D := fun ρ => (ownD i ρ).bind fun ds => some (.int ds.length)
theorem dn_lenO {i : Nat} {x : Str} {p p2 : Pos} (hg : Gl X "len") (hm : X.mg "len" = none) (hi : X.N[i]? = some x := by rfl) (hv : Vis X.env.scope x := by first | exact .inl rfl | exact .inr (.inl rfl) | exact .inr (.inr rfl)) (hd : (x == ("__debug__" : Str)) = false := by decide) (hcd : (x == ("__classdict__" : Str)) = false := by decide)
    (he : starEach [.Name x p2] X.env = (false, eval (.Name x p2) X.env) :: starEach [] X.env := by rfl) : PE X (.Call (.Name "len" p) [.Name x p2] [] pos) (tD C (dLenO i)) :=
  pe_to (pe_callB call_len_seq hg hm PySem.boot_len (pa_cons (pe_var hi hv hd hcd) pa_nil he) (by decide) (by decide) he rfl) fun σ H Q ⟨A, H0, G, ρ, d, en, sm, hd, k⟩ => by
    obtain ⟨ds, h1, hd⟩ := obind hd
    cases hd
    obtain ⟨a, vs, p1, p2, p3, p4, p5, p6⟩ := en.own i ds (ownD_ok h1)
    exact ⟨_, p1, a, vs, rfl, .inl (.of p2), by rw [p5.len]; exact k G H _ (.refl sm) (.int _)⟩
def dTruO (i : Nat) : List Sl → Option Bool := fun ρ => (ownD i ρ).bind fun ds => some (!ds.isEmpty)
theorem dt_truthO {i : Nat} {x : Str} {p : Pos} (hi : X.N[i]? = some x := by rfl) (hv : Vis X.env.scope x := by first | exact .inl rfl | exact .inr (.inl rfl) | exact .inr (.inr rfl)) (hd : (x == ("__debug__" : Str)) = false := by decide) (hcd : (x == ("__classdict__" : Str)) = false := by decide)
    (he : ∀ whole, isTrue (.Name x p) X.env whole = (do let v ← whole; standAt (Expr.Name x p).pos; holding [v] (truthy v)) := by intro _; rfl) : PT X (.Name x p) (tB C (dTruO i)) :=
  pt_to (pt_truth (pe_var hi hv hd hcd) he) fun σ H Q ⟨A, H0, G, ρ, d, en, sm, hd, k⟩ => by
    obtain ⟨ds, h1, hd⟩ := obind hd
    cases hd
    obtain ⟨a, vs, p1, p2, p3, p4, p5, p6⟩ := en.own i ds (ownD_ok h1)
    exact ⟨_, p1, _, .inl ⟨vs, .of p2, rfl⟩, by rw [emp_rp p5]; exact k G H _ (.refl sm) rfl⟩
/-- xs[e] = v -/
def sSetIx (i : Nat) (de dj : List Sl → Option D) : List Sl → Option Out := fun ρ => (de ρ).bind fun d => (ownD i ρ).bind fun ds => (dj ρ).bind fun j => match j with
  | .int k => (ixN ds.length k).bind fun n => some (.nx (ρ.set i (.own (ds.set n d))))
  | _ => none
theorem ds_setIx {i : Nat} {x : Str} {e j : Expr} {de dj : List Sl → Option D} {p spos : Pos} (he : PE X e (tD C de)) (hj : PE X j (tD C dj)) (hi : X.N[i]? = some x := by rfl) (hv : Vis X.env.scope x := by first | exact .inl rfl | exact .inr (.inl rfl) | exact .inr (.inr rfl)) (hd : (x == ("__debug__" : Str)) = false := by decide) (hcd : (x == ("__classdict__" : Str)) = false := by decide)
    (ha : ∀ v, assign (.Subscript (.Name x p) j spos) X.env v = (do
      let ov ← holding [v] (eval (.Name x p) X.env)
      let iv ← holding [v, ov] (eval j X.env)
      standAt spos
      holding [v, ov, iv] (setItem ov iv v)
      release [v, ov, iv] []) := by intro _; rfl) (hs : swapsWithSole [.Subscript (.Name x p) j spos] e pos.line X.env = pure false := by rfl) (hw : swappedStores [.Subscript (.Name x p) j spos] e X.env = pure none := by rfl)
    (h1 : (assignEach [.Subscript (.Name x p) j spos] X.env).map (·.2) = [assign (.Subscript (.Name x p) j spos) X.env] := by rfl) :
    PS X (.Assign [.Subscript (.Name x p) j spos] e pos) (tS C (sSetIx i de dj)) :=
  ps_to (ps_asg he (pg_sub (pe_var hi hv hd hcd) hj set_list ha) hs hw h1) fun E σ H ⟨A, G0, H0, G, ρ, o, x0, en, hd, fin⟩ => by
    obtain ⟨d, h1, hd⟩ := obind hd
    obtain ⟨ds, h2, hd⟩ := obind hd
    obtain ⟨jd, h3, hd⟩ := obind hd
    have ho := ownD_ok h2
    obtain ⟨a, vs, p1, p2, p3, p4, p5, p6⟩ := en.own i ds ho
    refine ⟨A, H0, G, ρ, d, en, x0.s, h1, fun G1 H1 v x1 r1 => ⟨_, p1, A, H0, G1, ρ, jd, en.ext x1, x1.s, h3, fun G2 H2 y x2 r2 => ?_⟩⟩
    split at hd
    · obtain ⟨n, h4, hd⟩ := obind hd
      cases hd
      cases r2
      have x12 := x1.trans x2
      refine ⟨a, vs, _, n, rfl, rfl, x12.h _ _ p2, by rw [p5.len]; exact h4, ?_⟩
      exact fin G2 _ σ x12.g (grow_ext (x0.trans x12) (x12.f _ _ p2 p3) p4) ((en.ext x12).grow ho p1 ((p5.mono x12.g).set (r1.mono x2.g) n))
    · cases hd
end
/-! ### a def -/
def start0 (n : Nat) (ds : List D) : List Sl := ds.map Sl.val ++ List.replicate (n - ds.length) Sl.off
def runD (np n : Nat) (den : List Sl → Option Out) : List D → Option D := fun ds => if ds.length == np then (den (start0 n ds)).bind fun o => match o with
    | .rt d => some d
    | .nx _ => some .non
    | _ => none
  else none
theorem start_en {C : Addr} {A : List Addr} {G H : Hp} {N : List Str} {vs : List V} {ds : List D} (cl : Cel A G H) (r : RpAll C A G vs ds) (h : vs.length ≤ N.length) : En C A H G H (L2.start N vs) (start0 N.length ds) := by
  have hl := r.len
  refine ⟨?_, fun i d e => ?_, fun i l e => ?_, fun i j l m a e => ?_, cl⟩
  · unfold L2.start start0
    rw [List.length_append, List.length_append, List.length_map, List.length_map, List.length_replicate, List.length_replicate]
    omega
  · unfold start0 at e
    unfold L2.start
    by_cases hi : i < ds.length
    · rw [List.getElem?_append_left (by simpa using hi), List.getElem?_map, List.getElem?_eq_getElem hi] at e
      cases e
      obtain ⟨v, h1, h2⟩ := r.get (List.getElem?_eq_getElem hi)
      refine ⟨v, ?_, h2⟩
      rw [List.getElem?_append_left (by rw [List.length_map]; omega), List.getElem?_map, h1]
      rfl
    · rw [List.getElem?_append_right (by simpa using hi), List.getElem?_replicate] at e
      split at e <;> cases e
  all_goals
    unfold start0 at e
    by_cases hi : i < ds.length
    · rw [List.getElem?_append_left (by simpa using hi), List.getElem?_map, List.getElem?_eq_getElem hi] at e
      cases e
    · rw [List.getElem?_append_right (by simpa using hi), List.getElem?_replicate] at e
      split at e <;> cases e
section
variable {P : Program} {w : World} {K : PySem.W.Frag} {mg : Str → Option Value} {base : Heap}
theorem fn_den {C : Addr} {x qual : Str} {st : Stmt} {f : Addr} {fd : FuncData} {N ps : List Str} {k : Nat} {den : List Sl → Option Out} (F : Fun K x qual st f fd) (S : FnScope N ps (defScope st))
    (hbody : ∀ (cdv : Value) (A : Around) (outer : List Env) (s : Shared) (H : Hp) (E : XK), Room k (A.deeper (envOfC qual (defScope st) s.heap.objs.size f cdv)) →
      PSs (cxOf CX0 P w K mg base N qual (defScope st) f cdv A outer s H E).nox (defBody st) (tS C den)) : FnOk P w K mg base CX0 (k + 1) f fd ps (SpD C (runD ps.length N.length den)) := by
  have hpl : ps.length ≤ N.length := by have := congrArg List.length S.pre; rw [List.length_take] at this; omega
  refine F.ok S (fun vs H Q E h => ?_) (fun cdv A outer s H vs Q E hr h => ⟨_, hbody cdv A outer s H E hr, ?_⟩)
  · obtain ⟨A, G, ds, d, cl, sm, r, hd, _⟩ := h
    unfold runD at hd
    split at hd
    · rename_i hl
      rw [r.len]
      exact beq_iff_eq.mp hl
    · cases hd
  · obtain ⟨A, G, ds, d, cl, sm, r, hd, fin⟩ := h
    unfold runD at hd
    split at hd
    · rename_i hl
      obtain ⟨o, h1, hd⟩ := obind hd
      refine ⟨A, G, H, G, _, o, .refl sm, start_en cl r (by rw [r.len, beq_iff_eq.mp hl]; exact hpl), h1, ?_⟩
      cases o with
      | rt d' => cases hd; exact fun G1 H1 v x1 r1 => fin G1 H1 v x1 r1
      | nx ρ => cases hd; exact fun G1 H1 σ1 s1 x1 en1 => fin G1 H1 .non x1 .non
      | bk ρ => cases hd
      | ct ρ => cases hd
    · cases hd
end
end DN

set_option maxHeartbeats 4000000
/-! tuple * n for n up to 1 -/
namespace DN
open PySem PySem.Spec PyProof.Rows L2 KG
theorem tuple_mulN (l : Addr) (items : Array Value) (n : Nat) (dd : Option Addr) (sl : Array (Option Value)) (x : Int) (u : Tok) (c0 : (decide (x < -(2 ^ 63)) || decide (x ≥ 2 ^ 63)) = false) (c1 : (items.isEmpty || x == 1) = false) (c2 : (decide (x ≤ 0) || items.isEmpty) = true) (hsz : (#[] : Array Value).size ≤ sizeLine) :
    Meets (Builtin.«tuple.__mul__» ⟨[.ref l, .int x u], []⟩) (fun _ R s => s.heap.get? l = some { cls := .type "tuple", dict := dd, data := .seq items n, slots := sl } ∧
      R (.ok (.ret (Value.ref s.heap.objs.size))) { s with heap := s.heap.push { cls := Value.type "tuple", data := Data.seq #[] }, toks := s.toks }) :=
  .of_wp fun prog w A R s h => by
    obtain ⟨hp0, g0, d0, tk0, os0⟩ := s
    obtain ⟨hl, h⟩ := h
    have f1 := AutoSeq1.idx_int
    wp_walk using wpAny_loadPart' hl
    repeat (first | (refine wpAny_ite_false (decide_eq_false (by rw [c0]; exact Bool.false_ne_true)) ?_; wp_walk using wpAny_loadPart' hl) | (refine wpAny_ite_false (decide_eq_false (by rw [c1]; exact Bool.false_ne_true)) ?_; wp_walk using wpAny_loadPart' hl) | (refine wpAny_ite_true (decide_eq_true c2) ?_; wp_walk using wpAny_loadPart' hl) | (refine wpAny_ite_false (decide_eq_false (Nat.not_lt.mpr hsz)) ?_; wp_walk using wpAny_loadPart' hl))
    exact ⟨_, rfl, h⟩
theorem tuple_mul1 (l : Addr) (items : Array Value) (n : Nat) (sl : Array (Option Value)) (dd : Option Addr) (u : Tok) (c0 : (decide ((1 : Int) < -(2 ^ 63)) || decide ((1 : Int) ≥ 2 ^ 63)) = false) (c1 : (items.isEmpty || (1 : Int) == 1) = true) :
    Meets (Builtin.«tuple.__mul__» ⟨[.ref l, .int 1 u], []⟩) (fun _ R s => s.heap.get? l = some { cls := .type "tuple", dict := dd, data := .seq items n, slots := sl } ∧
      R (.ok (.ret (Value.ref l))) s) :=
  .of_wp fun prog w A R s h => by
    obtain ⟨hp0, g0, d0, tk0, os0⟩ := s
    obtain ⟨hl, h⟩ := h
    have f1 := AutoSeq1.idx_int
    wp_walk using wpAny_loadPart' hl
    repeat (first | (refine wpAny_ite_false (decide_eq_false (by rw [c0]; exact Bool.false_ne_true)) ?_; wp_walk using wpAny_loadPart' hl) | (refine wpAny_ite_true (decide_eq_true c1) ?_; wp_walk using wpAny_loadPart' hl))
    exact ⟨_, rfl, h⟩
def rRepN (K : PySem.W.Frag) : R2 := fun x y H Q => ∃ l k xs, x = .ref l ∧ y = .int k ∧ SqT K H l xs ∧ xs ≠ [] ∧ ((k ≤ 0 ∧ -1000000 ≤ k ∧ ∀ p, H p = none → Q (.ref p) (upd H p (.tup []))) ∨ (k = 1 ∧ Q (.ref l) H))
theorem op_repN {X : Cx} : OpR X (binaryOp .Mult) (rRepN X.K) := by
  intro pins s σ H x y v u Q I rx ry h
  obtain ⟨l, k, xs, rfl, rfl, hT, hne, q⟩ := h
  cases rx
  obtain ⟨t, rfl⟩ := ry
  obtain ⟨its, r, ⟨⟨cl0, dd, dt0, sl⟩, ho, hc, n, hd⟩, hsz0⟩ := I.tuple hT
  simp only at hc hd
  subst hc hd
  have hLen : its.length = xs.length := r.length.symm
  have hi : its.toArray.isEmpty = false := by
    cases its with
    | nil => exact absurd (List.eq_nil_of_length_eq_zero hLen.symm) hne
    | cons a b => rfl
  rcases q with ⟨h0, h1, q⟩ | ⟨rfl, q⟩
  · refine wpAny_binaryOp_repeat_ref (T := "tuple") (U := "int") (by decide) ⟨_, ho, rfl⟩ (fun s' => typeIs_int s' k t) noFill_tuple_mul F.fills_int_mul F.slot_int_rmul repeat_tuple F.slot_int_index.lookup
      (call_meets F.slot_int_rmul (typeIs_int s k t) F.entry_int_rmul (F.args_int_rmul_2 _ _) (int_rmul_tuple k t l its.toArray n dd sl)
        ⟨ho, rfl, ⟨_, ho, rfl⟩, call_meets F.slot_tuple_mul ⟨_, ho, rfl⟩ F.entry_tuple_mul (F.args_tuple_mul_2 _ _) (tuple_mulN l its.toArray n dd sl k t (by
          have e : (2 : Int) ^ 63 = 9223372036854775808 := by decide
          rw [e, Bool.or_eq_false_iff]; exact ⟨decide_eq_false (by omega), decide_eq_false (by omega)⟩) (by rw [hi, Bool.false_or]; exact beq_eq_false_iff_ne.mpr (by omega)) (by rw [hi, Bool.or_false]; exact decide_eq_true h0) (by show 0 ≤ sizeLine; decide)) ⟨ho, ?_⟩⟩)
    refine ⟨.ref s.heap.objs.size, _, I.laid (t' := s.toks) (o := .tup []) (fun b ob q => Heap.get?_push_of_some _ q) (Nat.le_refl _) ?_, rfl, q _ (I.hok.fresh (Nat.le_refl _))⟩
    exact ⟨by show 0 ≤ sizeLine; decide, [], .nil, IsTup.new _ _⟩
  · refine wpAny_binaryOp_repeat_ref (T := "tuple") (U := "int") (by decide) ⟨_, ho, rfl⟩ (fun s' => typeIs_int s' 1 t) noFill_tuple_mul F.fills_int_mul F.slot_int_rmul repeat_tuple F.slot_int_index.lookup
      (call_meets F.slot_int_rmul (typeIs_int s 1 t) F.entry_int_rmul (F.args_int_rmul_2 _ _) (int_rmul_tuple 1 t l its.toArray n dd sl)
        ⟨ho, rfl, ⟨_, ho, rfl⟩, call_meets F.slot_tuple_mul ⟨_, ho, rfl⟩ F.entry_tuple_mul (F.args_tuple_mul_2 _ _) (tuple_mul1 l its.toArray n sl dd t (by decide) (by rw [hi]; rfl)) ⟨ho, ?_⟩⟩)
    exact ⟨.ref l, H, I, rfl, q⟩
end DN

set_option maxHeartbeats 1000000
/-! more expressions by what they compute -/
namespace DN
open PySem PySem.Spec PyProof.Rows L2 KG
section
variable {X : Cx} {C : Addr} {A : List Addr} {pos : Pos}
/-! * -/
def fMul : D → D → Option D
  | .int a, .int b => if cMul a b then some (.int (a * b)) else none
  | .tup ds, .int k => if !ds.isEmpty && decide (-1000000 ≤ k) && decide (k ≤ 1000) && decide (ds.length ≤ 1000) then some (.tup (List.replicate k.toNat ds).flatten) else none
  | .lst ds, .int k => if decide (-1000000 ≤ k) && decide (k ≤ 1000) && decide (ds.length ≤ 100) then some (.lst (List.replicate k.toNat ds).flatten) else none
  | _, _ => none
def rMulA (K : PySem.W.Frag) : R2 := fun x y H Q => rI CMulW (fun i j => .int (i * j)) x y H Q ∨ rRepT K x y H Q ∨ rRepN K x y H Q ∨ rRep x y H Q
theorem op_mulA : OpR X (binaryOp .Mult) (rMulA X.K) := op_mulW.or (op_repT.or (op_repN.or op_rep))
theorem cMul_ok (i j : Int) (h : cMul i j = true) : CMulW i j := by
  unfold cMul at h
  unfold CMulW
  exact of_decide_eq_true h
theorem is_mul {K : PySem.W.Frag} : Is2 C (rMulA K) fMul := fun A G H x y a b d Q sm ra rb hd k => by
  unfold fMul at hd
  split at hd
  · obtain ⟨hc, rfl⟩ := oif hd
    cases ra; cases rb
    exact .inl ⟨_, _, rfl, rfl, cMul_ok _ _ hc, k G H _ (.refl sm) (.int _)⟩
  · obtain ⟨hc, rfl⟩ := oif hd
    simp only [Bool.and_eq_true, decide_eq_true_eq, Bool.not_eq_true'] at hc
    obtain ⟨⟨⟨h1, h2⟩, h3⟩, h4⟩ := hc
    cases rb
    cases ra with
    | tup e r =>
      rename_i ds n a vs
      have hne : vs ≠ [] := fun z => by
        subst z
        cases r
        simp at h1
      have nw : ∀ p, H p = none → Q (.ref p) (upd H p (.tup (List.replicate n.toNat vs).flatten)) := fun p np => k _ _ _ (.new sm np _) (.tup upd_same ((r.rep n.toNat).mono (same_new (none_of sm np) _)))
      by_cases c2 : 2 ≤ n
      · exact .inr (.inl ⟨a, n, vs, rfl, rfl, .of (sm _ _ e), hne, c2, h3, by rw [r.len]; exact h4, nw⟩)
      · by_cases c1 : n = 1
        · subst c1
          refine .inr (.inr (.inl ⟨a, 1, vs, rfl, rfl, .of (sm _ _ e), hne, .inr ⟨rfl, k _ _ _ (.refl sm) ?_⟩⟩))
          have : (List.replicate (1 : Int).toNat ds).flatten = ds := by simp [List.replicate]
          rw [this]
          exact .tup e r
        · refine .inr (.inr (.inl ⟨a, n, vs, rfl, rfl, .of (sm _ _ e), hne, .inl ⟨by omega, h2, fun p np => ?_⟩⟩))
          have := nw p np
          have z : n.toNat = 0 := by omega
          rw [z] at this
          exact this
  · obtain ⟨hc, rfl⟩ := oif hd
    simp only [Bool.and_eq_true, decide_eq_true_eq] at hc
    obtain ⟨⟨h2, h3⟩, h4⟩ := hc
    cases rb
    cases ra with
    | lst e r =>
      rename_i ds n a vs
      have p63 : (2 : Int) ^ 63 = 9223372036854775808 := by decide
      refine .inr (.inr (.inr ⟨a, n, vs, rfl, rfl, sm _ _ e, by rw [p63]; omega, by rw [p63]; omega, ?_, fun p np => k _ _ _ (.new sm np _) (.lst upd_same ((r.rep n.toNat).mono (same_new (none_of sm np) _)))⟩))
      rw [r.len, sizeLine_eq]
      have : ds.length * n.toNat ≤ 100 * 1000 := Nat.mul_le_mul h4 (by omega)
      omega
  · cases hd
theorem dn_mul {a b : Expr} {da db : List Sl → Option D} (ha : PE X a (tD C da)) (hb : PE X b (tD C db)) : PE X (.BinOp a .Mult b pos) (tD C (d2 fMul da db)) := dn_op is_mul op_mulA ha hb
/-! xs[::-1] of a list -/
def fBack : D → Option D
  | .lst ds => some (.lst ds.reverse)
  | _ => none
theorem dn_back {e : Expr} {de : List Sl → Option D} {k : Nat} {p1 p2 p3 : Pos} (he : PE X e (tD C de)) : PE X (.Subscript e (.Slice none none (some (.UnaryOp .USub (.Constant (.int 1) k p1) p2)) p3) pos) (tD C (d1 fBack de)) :=
  pe_to (pe_revL he) fun σ H Q ⟨A, H0, G, ρ, z, en, sm, hd, k⟩ => by
    obtain ⟨a, h1, hd⟩ := obind hd
    unfold fBack at hd
    split at hd
    · cases hd
      refine ⟨A, H0, G, ρ, _, en, sm, h1, fun G1 H1 x x1 r1 => ?_⟩
      cases r1 with
      | lst e r => exact ⟨_, _, rfl, .of (x1.s _ _ e), fun p np => k _ _ _ (x1.trans (.new x1.s np _)) (.lst upd_same (r.reverse.mono (same_new (none_of x1.s np) _)))⟩
    · cases hd
/-! isqrt -/
def fIsqrt : List D → Option D
  | [.int a] => if decide (0 ≤ a) && decide (a.toNat.log2 < 13470) then some (.int ((Float64.isqrt a.toNat : Nat) : Int)) else none
  | _ => none
def rIsqrt : List V → Hp → VK → Prop := fun vs H Q => ∃ a : Int, vs = [.int a] ∧ 0 ≤ a ∧ a.toNat.log2 < 13470 ∧ Q (.int ((Float64.isqrt a.toNat : Nat) : Int)) H
theorem cr_isqrt : CallR X (.builtin "math.isqrt") rIsqrt := by
  intro pins s σ H vs us Q I r h
  obtain ⟨a, rfl, h0, h1, q⟩ := h
  obtain ⟨u, rfl, ru⟩ := vals1 r
  obtain ⟨t, rfl⟩ := ru
  exact call_function_meets PySem.W.MGF.kind_isqrt PySem.W.MGF.plain_isqrt PySem.W.MGF.entry_isqrt (PySem.W.MGF.args_isqrt _) (PySem.W.mg_run_isqrt a t (by omega) (by omega) (by omega)).meets ⟨.int _, H, I.tok _, ⟨_, rfl⟩, q⟩
theorem is_isqrt : IsN C rIsqrt fIsqrt := fun A G H xs ds d Q sm r hd k => by
  unfold fIsqrt at hd
  split at hd
  · obtain ⟨hc, rfl⟩ := oif hd
    rw [Bool.and_eq_true] at hc
    cases r with
    | cons r1 r2 => cases r2; cases r1; exact ⟨_, rfl, of_decide_eq_true hc.1, of_decide_eq_true hc.2, k G H _ (.refl sm) (.int _)⟩
  · cases hd
/-! any of ints in a tuple, of bools in a list -/
theorem truth_ints {prog : Program} {w : World} {A : Around} {ns : List Int} {its : List Value} (e : IntsAre its ns) :
    TruthOf prog w A (fun i v => its.toArray[i]? = some v) (fun i => ns.getD i 0 != 0) := fun i v s Q E hv hq => by
  have hv' : its[i]? = some v := by simpa using hv
  obtain ⟨n, t, hn, rfl⟩ : ∃ n t, ns[i]? = some n ∧ v = Value.int n t := by
    clear hv hq
    induction e generalizing i with
    | nil => simp at hv'
    | cons m t e ih =>
      cases i with
      | zero => simp at hv'; subst hv'; exact ⟨_, _, rfl, rfl⟩
      | succ i => exact ih i (by simpa using hv')
  have hg : ns.getD i 0 = n := by rw [List.getD_eq_getElem?_getD, hn] <;> rfl
  have hq' : Q (ns.getD i 0 != 0) s := hq
  rw [hg] at hq'
  exact PySem.P.truthy_int hq'
theorem iter_anyT {prog : Program} {w : World} {A : Around} {E : Value → Shared → Prop} {s : Shared} {l : Addr} {items : Array Value} {Q : Value → Shared → Prop} (hl : s.heap.IsTuple l items)
    (h : ∀ s₂ : Shared, s₂ = { s with heap := s.heap.push { cls := .type "tuple_iterator", data := .fields #[.ref l, .int 0 0] } } →
      (s₂.heap.IsTupleIter s.heap.objs.size l 0 ∧ s₂.heap.IsTuple l items) → l ≠ s.heap.objs.size → Q (.ref s.heap.objs.size) s₂) : wpAny (model prog w) A (pyIter (.ref l)) Q E s := by
  have hlt : l < s.heap.objs.size := by obtain ⟨_, e, _⟩ := hl; exact Heap.lt_size e
  exact wpAny_pyIter_tuple hl (h _ rfl ⟨⟨_, Heap.get?_push_size _ rfl, rfl, rfl⟩, hl.push _⟩ (Nat.ne_of_lt hlt))
theorem any_rangeI : ∀ ns : List Int, (List.range ns.length).any (fun i => ns.getD i 0 != 0) = ns.any (· != 0)
  | [] => rfl
  | b :: bs => by
    rw [List.length_cons, List.range_succ_eq_map, List.any_cons, List.any_map, List.any_cons, ← any_rangeI bs]
    all_goals rfl
def rAnyT (K : PySem.W.Frag) : List V → Hp → VK → Prop := fun vs H Q => ∃ (a : Addr) (ns : List Int), vs = [V.ref a] ∧ SqT K H a (ns.map V.int) ∧ Q (.bl (ns.any (· != 0))) H
theorem cr_anyT (hc : X.calm = true) : CallR X (.builtin "any") (rAnyT X.K) := by
  intro pins s σ H vs us Q I r h
  obtain ⟨a, ns, rfl, hs, q⟩ := h
  obtain ⟨its, rv, hl, _⟩ := I.tuple hs
  obtain ⟨u, rfl, ru⟩ := vals1 r
  cases ru
  have hb := intsAre_of rv
  have hlen : its.length = ns.length := by have := rv.length; rw [List.length_map] at this; exact this.symm
  refine call_any_walk (iter_anyT (show s.heap.IsTuple a its.toArray from hl) fun s₂ e2 st hne => ?_)
  subst e2
  refine ⟨_, _, _, _, _, _, _, rfl, Walks.tuple (A := X.A.in1) (I.ok.hd hc) _ a hne its.toArray, st, truth_ints hb, fun h' tk hk => ?_⟩
  refine ⟨.bl _, H, I.kept fun b o eo => hk b o (fun hmem => ?_) (Heap.get?_push_of_some _ eo), ?_, q⟩
  · rcases List.mem_cons.mp hmem with e1 | hmem
    · exact absurd (e1 ▸ Heap.lt_size eo) (Nat.lt_irrefl _)
    · cases hmem
  · show Value.bool _ = Value.bool _
    rw [← any_rangeI, List.size_toArray, hlen]
def bools : List D → Option (List Bool)
  | [] => some []
  | .bl i :: ds => (bools ds).bind fun r => some (i :: r)
  | _ :: _ => none
theorem bools_rp {G : Hp} : ∀ {ds : List D} {vs : List V} {ns : List Bool}, RpAll C A G vs ds → bools ds = some ns → vs = ns.map V.bl
  | [], _, _, r, h => by cases r; cases h; rfl
  | d :: ds, _, _, r, h => by
    cases r with
    | cons r1 r2 =>
      unfold bools at h
      split at h
      · rename_i q; cases q
      · rename_i q
        cases q
        obtain ⟨ns, h1, h2⟩ := obind h
        cases h2
        cases r1
        rw [bools_rp r2 h1]
        rfl
      · cases h
def fAny : List D → Option D
  | [.tup ds] => (intL ds).bind fun ns => some (.bl (ns.any (· != 0)))
  | [.lst ds] => (bools ds).bind fun bs => some (.bl (bs.any id))
  | _ => none
def rAnyA (K : PySem.W.Frag) : List V → Hp → VK → Prop := fun vs H Q => rAnyT K vs H Q ∨ rAny K vs H Q
theorem cr_anyA (hc : X.calm = true) : CallR X (.builtin "any") (rAnyA X.K) := (cr_anyT hc).or (cr_any hc)
theorem is_any {K : PySem.W.Frag} : IsN C (rAnyA K) fAny := fun A G H xs ds d Q sm r hd k => by
  unfold fAny at hd
  split at hd
  · obtain ⟨ns, h1, hd⟩ := obind hd
    cases hd
    cases r with
    | cons r1 r2 =>
      cases r2
      cases r1 with
      | tup e ra =>
        have hv := intL_rp ra h1
        subst hv
        exact .inl ⟨_, ns, rfl, .of (sm _ _ e), k G H _ (.refl sm) (.bl _)⟩
  · obtain ⟨ns, h1, hd⟩ := obind hd
    cases hd
    cases r with
    | cons r1 r2 =>
      cases r2
      cases r1 with
      | lst e ra =>
        have hv := bools_rp ra h1
        subst hv
        exact .inr ⟨_, ns, rfl, .of (sm _ _ e), k G H _ (.refl sm) (.bl _)⟩
  · cases hd
/-! a module's int -/
theorem dn_globI {x : Str} {i : Int} (hg : Gl X x) (hm : ∃ t : Tok, X.mg x = some (.int i t)) (hd : (x == ("__debug__" : Str)) = false := by decide) : PE X (.Name x pos) (tD C (dK (.int i))) := by
  obtain ⟨t, hm⟩ := hm
  exact pe_to (pe_glob (v := .int i) hg hm ⟨t, rfl⟩ hd) (d_const fun _ _ => .int i)
/-! name = [..] on one line -/
theorem ds_setLc {i : Nat} {y : Str} {py spos : Pos} {elt tg iter : Expr} {ifs : List Expr} {scope : Scope} {own : List (Str × Nat)} {is : List Nat} {di : List Sl → Option (List D)} {g : D → List Sl → Option (List Sl)} {tt : List Sl → Option Bool} {te : List Sl → Option D} (hc : X.calm = true) (hN : X.N.Nodup) (hy : X.N[i]? = some y) (hyl : X.env.scope.names.lookup y = some .local)
    (hsw : swapsWith (.ListComp elt [⟨tg, iter, ifs, 0⟩] scope pos) (some (.Name y py)) spos.line X.env = pure true) (hi : PI X tg iter (tI C di)) (ok : BlkOk X.N X.env.scope scope own)
    (hg : ∀ (s : Shared) (H : Hp) (A : Addr) (cl : List (Str × Addr)) (fp : List Addr), PG (X.blk s H scope (compEnvC scope cl A X.env) fp) tg (tG C is g)) (ht : ∀ (s : Shared) (H : Hp) (A : Addr) (cl : List (Str × Addr)) (fp : List Addr), PTs (X.blk s H scope (compEnvC scope cl A X.env) fp) ifs (tB C tt))
    (he : ∀ (s : Shared) (H : Hp) (A : Addr) (cl : List (Str × Addr)) (fp : List Addr), PE (X.blk s H scope (compEnvC scope cl A X.env) fp) elt (tD C te)) (hv : ∀ i ∈ is, i ∈ own.map (·.2) := by decide) (hs : ∀ x, foldedSetIterable iter X.env x = pure x := by intro _; rfl) :
    PS X (.Assign [.Name y py] (.ListComp elt [⟨tg, iter, ifs, 0⟩] scope pos) spos) (tS C (sSet i (dLc di g tt te (own.map (·.2))))) :=
  ps_to (ps_setLc hc hN hy hyl hsw hi ok hg ht he hs) fun E σ H ⟨A, G0, H0, G, ρ, o, x0, en, hd, fin⟩ => by
    obtain ⟨d, h1, hd⟩ := obind hd
    cases hd
    exact lc_ok hv σ H _ ⟨A, H0, G, ρ, d, en, x0.s, h1, fun G1 H1 v x1 r1 => fin G1 H1 _ x1.g (x0.trans x1) ((en.ext x1).put i r1)⟩
/-! [.. for a in x for b in y] -/
def unOwn : Sl → Sl
  | .own _ => .off
  | s => s
def noOwn (ρ : List Sl) : List Sl := ρ.map unOwn
theorem noOwn_not {ρ : List Sl} {i : Nat} {l : List D} (h : (noOwn ρ)[i]? = some (.own l)) : False := by
  unfold noOwn at h
  rw [List.getElem?_map] at h
  cases q : ρ[i]? with
  | none => rw [q] at h; cases h
  | some s =>
    rw [q] at h
    cases s <;> cases h
theorem En.noOwn {C : Addr} {A : List Addr} {H0 G H : Hp} {σ : L2.St} {ρ : List Sl} (e : En C A H0 G H σ ρ) : En C A H0 G H σ (noOwn ρ) := by
  refine ⟨by unfold DN.noOwn; rw [List.length_map]; exact e.len, fun i d h => ?_, fun i l h => (noOwn_not h).elim, fun i j l m a h => (noOwn_not h).elim, e.cel⟩
  refine e.val i d ?_
  unfold DN.noOwn at h
  rw [List.getElem?_map] at h
  cases q : ρ[i]? with
  | none => rw [q] at h; cases h
  | some s =>
    rw [q] at h
    cases s with
    | off => cases h
    | own l => cases h
    | val d' => cases h; rfl
def lc2D (te : List Sl → Option D) (g1 : D → List Sl → Option (List Sl)) (ρ : List Sl) : List D → Option (List D)
  | [] => some []
  | d :: ds => (g1 d ρ).bind fun ρ1 => (te ρ1).bind fun y => (lc2D te g1 ρ ds).bind fun r => some (y :: r)
def lc1D (g : D → List Sl → Option (List Sl)) (di1 : List Sl → Option (List D)) (g1 : D → List Sl → Option (List Sl)) (te : List Sl → Option D) (vs1 : List Nat) (ρ : List Sl) : List D → Option (List D)
  | [] => some []
  | d :: ds => (g d ρ).bind fun ρ1 => (di1 ρ1).bind fun es => if decide (es.length ≤ 100) then (lc2D te g1 (wipeD (noOwn ρ1) vs1) es).bind fun a => (lc1D g di1 g1 te vs1 ρ ds).bind fun r => some (a ++ r) else none
def dLc2 (di : List Sl → Option (List D)) (g : D → List Sl → Option (List Sl)) (di1 : List Sl → Option (List D)) (g1 : D → List Sl → Option (List Sl)) (te : List Sl → Option D) (vs vs1 : List Nat) : List Sl → Option D := fun ρ =>
  (di ρ).bind fun ds => if decide (ds.length ≤ 100) then (lc1D g di1 g1 te vs1 (wipeD ρ vs) ds).bind fun r => some (.lst r) else none
theorem lc2_ok {is js vs vs1 : List Nat} {di di1 : List Sl → Option (List D)} {g g1 : D → List Sl → Option (List Sl)} {te : List Sl → Option D} (hv : ∀ i ∈ is, i ∈ vs) (hv1 : ∀ i ∈ js, i ∈ vs1) :
    ∀ σ H Q, tD C (dLc2 di g di1 g1 te vs vs1) σ H Q → tLc2 (tI C di) (tG C is g) (tB C bYes) (tI C di1) (tG C js g1) (tB C bYes) (tD C te) vs vs1 σ H Q := fun σ H Q ⟨A, H0, G, ρ, d, en, sm, hd, k⟩ => by
  obtain ⟨ds, h1, hd⟩ := obind hd
  split at hd
  · rename_i hz
    obtain ⟨r, h2, hd⟩ := obind hd
    cases hd
    have hz' : ds.length ≤ 100 := of_decide_eq_true hz
    refine ⟨A, H0, G, ρ, ds, en, sm, h1, fun J G1 H1 x1 wk Dl nD => ?_⟩
    have ng : G1 Dl = none := none_of x1.s nD
    have nDA : Dl ∉ A := fun z => by
      obtain ⟨⟨o, k1⟩, _⟩ := (en.ext x1).cel _ z
      rw [nD] at k1; cases k1
    refine ⟨fun i m H2 => m = ds.length - i ∧ i ≤ ds.length ∧ ∃ G2 ys rs rest, Ext G1 H1 G2 H2 ∧ G2 Dl = none ∧ H2 Dl = some (.lst ys) ∧ RpAll C A G2 ys rs ∧ rs.length ≤ 100 * i ∧ lc1D g di1 g1 te vs1 (wipeD ρ vs) (ds.drop i) = some rest ∧ rs ++ rest = r,
      ⟨ds.length, by simp, Nat.zero_le _, G1, [], [], r, .lay x1.s nD _, ng, upd_same, .nil, Nat.zero_le _, h2, rfl⟩, ?_⟩
    rintro i m H2 ⟨rfl, hi, G2, ys, rs, rest, x2, n2, e2, r2, hrs, hl, happ⟩
    obtain ⟨wstop, wgo⟩ := wk i G2 H2 x2.g x2.s
    by_cases lt : i < ds.length
    · have gd : ds[i]? = some ds[i] := List.getElem?_eq_getElem lt
      obtain ⟨go, yl⟩ := wgo _ gd
      rw [List.drop_eq_getElem_cons lt] at hl
      unfold lc1D at hl
      obtain ⟨ρ1, gg1, hl⟩ := obind hl
      obtain ⟨es, d1, hl⟩ := obind hl
      split at hl
      · rename_i hze
        have hze' : es.length ≤ 100 := of_decide_eq_true hze
        obtain ⟨as, i1, hl⟩ := obind hl
        obtain ⟨rest', t3, hl⟩ := obind hl
        cases hl
        refine .inr ⟨go, fun H' => ∃ G2 ys rs rest, Ext G1 H1 G2 H' ∧ G2 Dl = none ∧ H' Dl = some (.lst ys) ∧ RpAll C A G2 ys rs ∧ rs.length ≤ 100 * (i + 1) ∧ lc1D g di1 g1 te vs1 (wipeD ρ vs) (ds.drop (i + 1)) = some rest ∧ rs ++ rest = r,
          fun H' hN => ⟨ds.length - (i + 1), by omega, rfl, lt, hN⟩, fun x H3 hy => ?_⟩
        obtain ⟨G3, x3, r3⟩ := yl x H3 hy
        have en3 : En C A H0 G3 H3 (wipe σ vs) (wipeD ρ vs) := (((en.ext x1).ext x2).ext x3).wipe vs
        refine ⟨A, H0, G3, _, _, ρ1, en3, x3.s, r3, gg1, fun σ4 G4 H4 x4 en4 w4 => ⟨by rw [w4 vs hv, wipe_idem], A, H0, G4, ρ1, true, en4, x4.s, rfl, fun G5 H5 v x5 hv5 => ?_⟩⟩
        obtain rfl : v = true := hv5
        rw [if_pos rfl]
        refine ⟨A, H0, G5, ρ1, es, en4.ext x5, x5.s, d1, fun J1 G6 H6 x6 wk1 => ?_⟩
        have e6 : H6 Dl = some (.lst ys) := x6.h _ _ (x5.h _ _ (x4.h _ _ (x3.h _ _ e2)))
        have n6 : G6 Dl = none := x6.f _ _ (x5.h _ _ (x4.h _ _ (x3.h _ _ e2))) (x5.f _ _ (x4.h _ _ (x3.h _ _ e2)) (x4.f _ _ (x3.h _ _ e2) (x3.f _ _ e2 n2)))
        have X6 : Ext G1 H1 G6 H6 := (((x2.trans x3).trans x4).trans x5).trans x6
        have r6 : RpAll C A G6 ys rs := (((r2.mono x3.g).mono x4.g).mono x5.g).mono x6.g
        have en6 : En C A H0 G6 H6 σ4 (noOwn ρ1) := ((en4.ext x5).ext x6).noOwn
        refine ⟨fun j k H7 => k = es.length - j ∧ j ≤ es.length ∧ ∃ G7 zs qs rest1, Same G6 G7 ∧ Ext G1 H1 G7 H7 ∧ G7 Dl = none ∧ H7 Dl = some (.lst zs) ∧ RpAll C A G7 zs qs ∧ qs.length ≤ 100 * i + j ∧ En C A H0 G7 H7 σ4 (noOwn ρ1) ∧ lc2D te g1 (wipeD (noOwn ρ1) vs1) (es.drop j) = some rest1 ∧ qs ++ (rest1 ++ rest') = r,
          ⟨es.length, by simp, Nat.zero_le _, G6, ys, rs, as, fun _ _ h => h, X6, n6, e6, r6, by omega, en6, i1, by rw [← happ]⟩, ?_⟩
        rintro j k2 H7 ⟨rfl, hj, G7, zs, qs, rest1, s7, X7, n7, e7, r7, hq7, en7, l7, ap7⟩
        obtain ⟨wstop1, wgo1⟩ := wk1 j G7 H7 s7 X7.s
        by_cases lt1 : j < es.length
        · have ge : es[j]? = some es[j] := List.getElem?_eq_getElem lt1
          obtain ⟨go1, yl1⟩ := wgo1 _ ge
          rw [List.drop_eq_getElem_cons lt1] at l7
          unfold lc2D at l7
          obtain ⟨ρ2, gg2, l7⟩ := obind l7
          obtain ⟨y, t2, l7⟩ := obind l7
          obtain ⟨rest2, t4, l7⟩ := obind l7
          cases l7
          refine .inr ⟨go1, fun H' => ∃ G7 zs qs rest1, Same G6 G7 ∧ Ext G1 H1 G7 H' ∧ G7 Dl = none ∧ H' Dl = some (.lst zs) ∧ RpAll C A G7 zs qs ∧ qs.length ≤ 100 * i + (j + 1) ∧ En C A H0 G7 H' σ4 (noOwn ρ1) ∧ lc2D te g1 (wipeD (noOwn ρ1) vs1) (es.drop (j + 1)) = some rest1 ∧ qs ++ (rest1 ++ rest') = r,
            fun H' hN => ⟨es.length - (j + 1), by omega, rfl, lt1, hN⟩, fun x H8 hy8 => ?_⟩
          obtain ⟨G8, x8, r8⟩ := yl1 x H8 hy8
          have en8 : En C A H0 G8 H8 (wipe σ4 vs1) (wipeD (noOwn ρ1) vs1) := (en7.ext x8).wipe vs1
          refine ⟨A, H0, G8, _, _, ρ2, en8, x8.s, r8, gg2, fun σ9 G9 H9 x9 en9 w9 => ⟨by rw [w9 vs1 hv1, wipe_idem], A, H0, G9, ρ2, true, en9, x9.s, rfl, fun G10 H10 v x10 hv10 => ?_⟩⟩
          obtain rfl : v = true := hv10
          rw [if_pos rfl]
          refine ⟨A, H0, G10, ρ2, y, en9.ext x10, x10.s, t2, fun G11 H11 yv x11 r11 => ?_⟩
          have xx := ((x8.trans x9).trans x10).trans x11
          have e11 : H11 Dl = some (.lst zs) := xx.h _ _ e7
          have n11 : G11 Dl = none := xx.f _ _ e7 n7
          have X11 := X7.trans xx
          have r11' : RpAll C A G11 zs qs := r7.mono xx.g
          have hlen : zs.length < sizeLine := by
            rw [r11'.len]
            exact sz_lt (decide_eq_true (show qs.length ≤ szB by unfold szB; omega))
          refine ⟨zs, e11, hlen, G11, zs ++ [yv], qs ++ [y], rest2, s7.trans xx.g, ⟨X11.g, fun b o q => ?_, fun b o q => ?_, X11.f⟩, n11, upd_same, r11'.append (.cons r11 .nil), ?_, ?_, t4, ?_⟩
          · rw [upd_ne (fun z => by rw [z, n11] at q; cases q)]; exact X11.s _ _ q
          · rw [upd_ne (ne_of_none q nD)]; exact X11.h _ _ q
          · rw [List.length_append, List.length_singleton]; omega
          · have e12 := en7.ext xx
            exact ⟨e12.len, e12.val, fun a l q => (noOwn_not q).elim, e12.sep, fun a ha => by
              obtain ⟨⟨o, k1⟩, k2⟩ := e12.cel a ha
              exact ⟨⟨o, by rw [upd_ne (fun z => by subst z; exact nDA ha)]; exact k1⟩, k2⟩⟩
          · rw [List.append_assoc]; exact ap7
        · have ei : j = es.length := by omega
          subst ei
          rw [List.drop_length] at l7
          cases l7
          exact .inl ⟨wstop1 rfl, G7, zs, qs, rest', X7, n7, e7, r7, by omega, t3, by simpa using ap7⟩
      · cases hl
    · have ei : i = ds.length := by omega
      subst ei
      rw [List.drop_length] at hl
      cases hl
      rw [List.append_nil] at happ
      subst happ
      refine .inl ⟨wstop rfl, k (upd G2 Dl (.lst ys)) H2 _ ⟨fun b o q => ?_, fun b o q => ?_, x1.h.trans x2.h, fun b o q q' => ?_⟩ (.lst upd_same (r2.mono (same_new n2 _)))⟩
      · rw [upd_ne (fun z => by rw [z] at q; have := x2.g _ _ (x1.g _ _ q); rw [n2] at this; cases this)]; exact x2.g _ _ (x1.g _ _ q)
      · by_cases z : b = Dl
        · subst z; rw [upd_same] at q; cases q; exact e2
        · rw [upd_ne z] at q; exact x2.s _ _ q
      · rw [upd_ne (ne_of_none (x1.h _ _ q) nD)]
        exact x2.f _ _ (x1.h _ _ q) (x1.f _ _ q q')
  · cases hd
theorem dn_lc2 {elt tg iter tg1 iter1 : Expr} {scope : Scope} {own : List (Str × Nat)} {is js vs1 : List Nat} {di di1 : List Sl → Option (List D)} {g g1 : D → List Sl → Option (List Sl)} {te : List Sl → Option D} (hc : X.calm = true) (hN : X.N.Nodup) (hi : PI X tg iter (tI C di)) (ok : BlkOk X.N X.env.scope scope own)
    (hg : ∀ (s : Shared) (H : Hp) (A : Addr) (cl : List (Str × Addr)) (fp : List Addr), PG (X.blk s H scope (compEnvC scope cl A X.env) fp) tg (tG C is g))
    (hi1 : ∀ (s : Shared) (H : Hp) (A : Addr) (cl : List (Str × Addr)) (fp : List Addr), PI (X.blk s H scope (compEnvC scope cl A X.env) fp) tg1 iter1 (tI C di1))
    (hg1 : ∀ (s : Shared) (H : Hp) (A : Addr) (cl : List (Str × Addr)) (fp : List Addr), PG (X.blk s H scope (compEnvC scope cl A X.env) fp) tg1 (tG C js g1))
    (he : ∀ (s : Shared) (H : Hp) (A : Addr) (cl : List (Str × Addr)) (fp : List Addr), PE (X.blk s H scope (compEnvC scope cl A X.env) fp) elt (tD C te)) (hv : ∀ i ∈ is, i ∈ own.map (·.2) := by decide) (hv1 : ∀ i ∈ js, i ∈ vs1 := by decide) (hw : ∀ i ∈ vs1, i ∈ own.map (·.2) := by decide) (hs : ∀ x, foldedSetIterable iter X.env x = pure x := by intro _; rfl) (hs1 : ∀ env x, foldedSetIterable iter1 env x = pure x := by intro _ _; rfl) :
    PE X (.ListComp elt [⟨tg, iter, [], 0⟩, ⟨tg1, iter1, [], 0⟩] scope pos) (tD C (dLc2 di g di1 g1 te (own.map (·.2)) vs1)) :=
  pe_to (pe_lc2 hc hN hi ok hw hg (fun _ _ _ _ _ => dts_nil) hi1 hg1 (fun _ _ _ _ _ => dts_nil) he hs hs1) (lc2_ok hv hv1)
theorem ds_setLc2 {i : Nat} {y : Str} {py spos : Pos} {elt tg iter tg1 iter1 : Expr} {scope : Scope} {own : List (Str × Nat)} {is js vs1 : List Nat} {di di1 : List Sl → Option (List D)} {g g1 : D → List Sl → Option (List Sl)} {te : List Sl → Option D} (hc : X.calm = true) (hN : X.N.Nodup) (hy : X.N[i]? = some y) (hyl : X.env.scope.names.lookup y = some .local)
    (hsw : swapsWith (.ListComp elt [⟨tg, iter, [], 0⟩, ⟨tg1, iter1, [], 0⟩] scope pos) (some (.Name y py)) spos.line X.env = pure true) (hi : PI X tg iter (tI C di)) (ok : BlkOk X.N X.env.scope scope own)
    (hg : ∀ (s : Shared) (H : Hp) (A : Addr) (cl : List (Str × Addr)) (fp : List Addr), PG (X.blk s H scope (compEnvC scope cl A X.env) fp) tg (tG C is g))
    (hi1 : ∀ (s : Shared) (H : Hp) (A : Addr) (cl : List (Str × Addr)) (fp : List Addr), PI (X.blk s H scope (compEnvC scope cl A X.env) fp) tg1 iter1 (tI C di1))
    (hg1 : ∀ (s : Shared) (H : Hp) (A : Addr) (cl : List (Str × Addr)) (fp : List Addr), PG (X.blk s H scope (compEnvC scope cl A X.env) fp) tg1 (tG C js g1))
    (he : ∀ (s : Shared) (H : Hp) (A : Addr) (cl : List (Str × Addr)) (fp : List Addr), PE (X.blk s H scope (compEnvC scope cl A X.env) fp) elt (tD C te)) (hv : ∀ i ∈ is, i ∈ own.map (·.2) := by decide) (hv1 : ∀ i ∈ js, i ∈ vs1 := by decide) (hw : ∀ i ∈ vs1, i ∈ own.map (·.2) := by decide) (hs : ∀ x, foldedSetIterable iter X.env x = pure x := by intro _; rfl) (hs1 : ∀ env x, foldedSetIterable iter1 env x = pure x := by intro _ _; rfl) :
    PS X (.Assign [.Name y py] (.ListComp elt [⟨tg, iter, [], 0⟩, ⟨tg1, iter1, [], 0⟩] scope pos) spos) (tS C (sSet i (dLc2 di g di1 g1 te (own.map (·.2)) vs1))) :=
  ps_to (ps_setLc2 hc hN hy hyl hsw hi ok hw hg (fun _ _ _ _ _ => dts_nil) hi1 hg1 (fun _ _ _ _ _ => dts_nil) he hs hs1) fun E σ H ⟨A, G0, H0, G, ρ, o, x0, en, hd, fin⟩ => by
    obtain ⟨d, h1, hd⟩ := obind hd
    cases hd
    exact lc2_ok hv hv1 σ H _ ⟨A, H0, G, ρ, d, en, x0.s, h1, fun G1 H1 v x1 r1 => fin G1 H1 _ x1.g (x0.trans x1) ((en.ext x1).put i r1)⟩
/-! a, b = x, y -/
def sPar (i j : Nat) (da : List Sl → Option (List D)) : List Sl → Option Out := fun ρ => (da ρ).bind fun l => match l with
  | [a, b] => some (.nx ((ρ.set i (.val a)).set j (.val b)))
  | _ => none
theorem ds_par {i j : Nat} {x y : Str} {a b : Expr} {da : List Sl → Option (List D)} {px py pt : Pos} {kt k2 pt2} (hc : X.calm = true) (hN : X.N.Nodup) (ha : PA X [a, b] (tA C da)) (hi : X.N[i]? = some x := by rfl) (hj : X.N[j]? = some y := by rfl) (hij : i ≠ j := by decide)
    (hx : X.env.scope.names.lookup x = some .local := by rfl) (hy : X.env.scope.names.lookup y = some .local := by rfl)
    (hw : swappedStores [.Tuple [.Name x px, .Name y py] kt pt] (.Tuple [a, b] k2 pt2) X.env = pure (some [x, y]) := by rfl)
    (hs : swapsWithSole [.Tuple [.Name x px, .Name y py] kt pt] (.Tuple [a, b] k2 pt2) pos.line X.env = pure false := by rfl) :
    PS X (.Assign [.Tuple [.Name x px, .Name y py] kt pt] (.Tuple [a, b] k2 pt2) pos) (tS C (sPar i j da)) :=
  ps_to (ps_par hc hN hi hj hij hx hy ha hw hs) fun E σ H ⟨A, G0, H0, G, ρ, o, x0, en, hd, fin⟩ => by
    obtain ⟨l, h1, hd⟩ := obind hd
    refine ⟨A, H0, G, ρ, l, en, x0.s, h1, fun G1 H1 vs x1 r1 => ?_⟩
    split at hd
    · cases hd
      cases r1 with
      | cons r1 r2 => cases r2 with | cons r2 r3 => cases r3; exact ⟨_, _, rfl, fin G1 H1 _ x1.g (x0.trans x1) (((en.ext x1).put i r1).put j r2)⟩
    · cases hd
def sPar3 (i j l : Nat) (da : List Sl → Option (List D)) : List Sl → Option Out := fun ρ => (da ρ).bind fun q => match q with
  | [a, b, c] => some (.nx (((ρ.set i (.val a)).set j (.val b)).set l (.val c)))
  | _ => none
theorem ds_par3 {i j l : Nat} {x y z : Str} {a b c : Expr} {da : List Sl → Option (List D)} {px py pz pt : Pos} {kt k2 pt2} (hc : X.calm = true) (hN : X.N.Nodup) (ha : PA X [a, b, c] (tA C da)) (hi : X.N[i]? = some x := by rfl) (hj : X.N[j]? = some y := by rfl) (hl : X.N[l]? = some z := by rfl) (hij : i ≠ j := by decide) (hil : i ≠ l := by decide) (hjl : j ≠ l := by decide)
    (hx : X.env.scope.names.lookup x = some .local := by rfl) (hy : X.env.scope.names.lookup y = some .local := by rfl) (hz : X.env.scope.names.lookup z = some .local := by rfl)
    (hw : swappedStores [.Tuple [.Name x px, .Name y py, .Name z pz] kt pt] (.Tuple [a, b, c] k2 pt2) X.env = pure (some [x, y, z]) := by rfl)
    (hs : swapsWithSole [.Tuple [.Name x px, .Name y py, .Name z pz] kt pt] (.Tuple [a, b, c] k2 pt2) pos.line X.env = pure false := by rfl) :
    PS X (.Assign [.Tuple [.Name x px, .Name y py, .Name z pz] kt pt] (.Tuple [a, b, c] k2 pt2) pos) (tS C (sPar3 i j l da)) :=
  ps_to (ps_par3 hc hN hi hj hl hij hil hjl hx hy hz ha hw hs) fun E σ H ⟨A, G0, H0, G, ρ, o, x0, en, hd, fin⟩ => by
    obtain ⟨q, h1, hd⟩ := obind hd
    refine ⟨A, H0, G, ρ, q, en, x0.s, h1, fun G1 H1 vs x1 r1 => ?_⟩
    split at hd
    · cases hd
      cases r1 with
      | cons r1 r2 => cases r2 with | cons r2 r3 => cases r3 with | cons r3 r4 => cases r4; exact ⟨_, _, _, rfl, fin G1 H1 _ x1.g (x0.trans x1) ((((en.ext x1).put i r1).put j r2).put l r3)⟩
    · cases hd
/-! a list of one's own, lent to what only reads it and keeps nothing of it -/
mutual
def noLst : D → Bool
  | .tup ds => noLsts ds
  | .lst _ => false
  | .num t e => noLst t && noLst e
  | _ => true
def noLsts : List D → Bool
  | [] => true
  | d :: ds => noLst d && noLsts ds
end
mutual
theorem Rp.noLst {C : Addr} {A : List Addr} {G G' : Hp} (s : ∀ b o, (∀ l, o ≠ HO.lst l) → G b = some o → G' b = some o) : ∀ {d : D} {v : V}, Rp C A G v d → DN.noLst d = true → Rp C A G' v d
  | .non, _, h, _ => by cases h; exact .non
  | .bl b, _, h, _ => by cases h; exact .bl b
  | .int i, _, h, _ => by cases h; exact .int i
  | .str x, _, h, _ => by cases h; exact .str x
  | .tup ds, _, h, n => by cases h with | tup e r => exact .tup (s _ _ (fun _ z => by cases z) e) (RpAll.noLst s r (by simpa [DN.noLst] using n))
  | .lst ds, _, h, n => by simp [DN.noLst] at n
  | .num t e, _, h, n => by
    have n' : DN.noLst t = true ∧ DN.noLst e = true := by simpa [DN.noLst] using n
    cases h with | num e1 r1 r2 => exact .num (s _ _ (fun _ z => by cases z) e1) (Rp.noLst s r1 n'.1) (Rp.noLst s r2 n'.2)
  | .ref i, _, h, _ => by cases h with | ref e => exact .ref e
theorem RpAll.noLst {C : Addr} {A : List Addr} {G G' : Hp} (s : ∀ b o, (∀ l, o ≠ HO.lst l) → G b = some o → G' b = some o) : ∀ {ds : List D} {vs : List V}, RpAll C A G vs ds → DN.noLsts ds = true → RpAll C A G' vs ds
  | [], _, h, _ => by cases h; exact .nil
  | d :: ds, _, h, n => by
    have n' : DN.noLst d = true ∧ DN.noLsts ds = true := by simpa [DN.noLsts] using n
    cases h with | cons r1 r2 => exact .cons (Rp.noLst s r1 n'.1) (RpAll.noLst s r2 n'.2)
end
theorem bor_ok {α β : Type} {C : Addr} {rep : List Addr → Hp → β → α → Prop} {ok : α → Bool} {i : Nat} {den : List Sl → Option α} (hrep : ∀ (A : List Addr) (G G' : Hp) (v : β) (d : α), (∀ b o, (∀ l, o ≠ HO.lst l) → G b = some o → G' b = some o) → rep A G v d → ok d = true → rep A G' v d) :
    ∀ σ H Q, tX C rep (fun ρ => (ownD i ρ).bind fun ds => (den (ρ.set i (.val (.lst ds)))).bind fun d => if ok d then some d else none) σ H Q → tX C rep den σ H Q := fun σ H Q ⟨A, H0, G, ρ, d, en, sm, hd, k⟩ => by
  obtain ⟨ds, h1, hd⟩ := obind hd
  obtain ⟨d', h2, hd⟩ := obind hd
  obtain ⟨hn, rfl⟩ := oif hd
  have ho := ownD_ok h1
  obtain ⟨a, vs, p1, p2, p3, p4, p5, p6⟩ := en.own i ds ho
  obtain ⟨en2, s2, s3⟩ := en.freeze sm ho p1 p2 p5
  refine ⟨A, H0, _, _, d', en2, s3, h2, fun G1 H1 v x1 r1 => ?_⟩
  have ga : G1 a = some (.lst vs) := x1.g _ _ upd_same
  refine k (fun b => if b = a then none else G1 b) H1 v ⟨fun b o q => ?_, fun b o q => ?_, x1.h, fun b o q q' => ?_⟩ (hrep A G1 _ v d' (fun b o n q => ?_) r1 hn)
  · have nb : b ≠ a := fun z => by rw [z, p3] at q; cases q
    show (if b = a then none else G1 b) = some o
    rw [if_neg nb]
    exact x1.g _ _ (by rw [upd_ne nb]; exact q)
  · by_cases z : b = a
    · rw [if_pos z] at q; cases q
    · rw [if_neg z] at q; exact x1.s _ _ q
  · show (if b = a then none else G1 b) = none
    by_cases z : b = a
    · rw [if_pos z]
    · rw [if_neg z]; exact x1.f _ _ q (by rw [upd_ne z]; exact q')
  · have nb : b ≠ a := fun z => by rw [z, ga] at q; exact n vs (Option.some.inj q).symm
    show (if b = a then none else G1 b) = some o
    rw [if_neg nb]
    exact q
def dBor (i : Nat) (den : List Sl → Option D) : List Sl → Option D := fun ρ => (ownD i ρ).bind fun ds => (den (ρ.set i (.val (.lst ds)))).bind fun d => if noLst d then some d else none
def bBor (i : Nat) (den : List Sl → Option Bool) : List Sl → Option Bool := fun ρ => (ownD i ρ).bind fun ds => (den (ρ.set i (.val (.lst ds)))).bind fun d => if true then some d else none
theorem dn_bor {i : Nat} {e : Expr} {d : List Sl → Option D} (h : PE X e (tD C d)) : PE X e (tD C (dBor i d)) := pe_to h (bor_ok fun _ _ _ _ _ s r n => Rp.noLst s r n)
theorem dt_bor {i : Nat} {e : Expr} {d : List Sl → Option Bool} (h : PT X e (tB C d)) : PT X e (tB C (bBor i d)) := pt_to h (bor_ok (ok := fun _ => true) fun _ _ _ _ _ _ r _ => r)
end
end DN

set_option maxHeartbeats 2000000
/-! dicts whose keys are tuples at any depth -/
namespace DN
open PySem PySem.Spec PyProof.Rows L2 KG
/-- where a key's tuple stands, and the value there -/
abbrev DXs := List (NestedKey × Addr × V)
def RelX (x : NestedKey × Addr × V) (u : NestedKey × Addr × Value) : Prop := x.1 = u.1 ∧ x.2.1 = u.2.1 ∧ RelV x.2.2 u.2.2
def dicP (P : Program) (w : World) (d : Addr) (xs : DXs) : Heap → Prop := fun h => (d == sysModules) = false ∧ xs.length ≤ 100000 ∧ ∃ us : List (NestedKey × Addr × Value), Paired RelX xs us ∧
  ∃ o es ep, h.get? d = some o ∧ o.ExactDict ∧ o.data = .dict es ep ∧ es.toList = us.map (entryOfKey (nestedKind P w)) ∧ (us.map (·.1)).Nodup
def dicO (P : Program) (w : World) (d : Addr) (xs : DXs) : HO := .ext (dicP P w d xs)
mutual
/-- the value is that key, by the tuples that are tracked -/
inductive NkV (H : Hp) : NestedKey → V → Prop
  | non : NkV H .none .non
  | bl (b : Bool) : NkV H (.num (if b = true then 1 else 0)) (.bl b)
  | int (i : Int) : NkV H (.num i) (.int i)
  | str (x : Str) : NkV H (.text x) (.str x)
  | tup {a : Addr} {vs : List V} {ks : List NestedKey} : H a = some (.tup vs) → NkAll H ks vs → NkV H (.tup ks) (.ref a)
inductive NkAll (H : Hp) : List NestedKey → List V → Prop
  | nil : NkAll H [] []
  | cons {k : NestedKey} {ks : List NestedKey} {v : V} {vs : List V} : NkV H k v → NkAll H ks vs → NkAll H (k :: ks) (v :: vs)
end
mutual
theorem NkV.is {P : Program} {w : World} {H : Hp} {h : Heap} (ok : HOk P w H h) : ∀ {k : NestedKey} {v : V} {u : Value}, NkV H k v → RelV v u → NestedIs h k u
  | .none, _, _, x, r => by cases x; cases r; exact .none
  | .num i, _, _, x, r => by
    cases x with
    | bl b => cases r; exact .bool rfl
    | int i => obtain ⟨t, rfl⟩ := r; exact .int i t
  | .text x, _, _, q, r => by cases q; obtain ⟨t, rfl⟩ := r; exact .text x t
  | .tup ks, _, _, x, r => by
    cases x with
    | tup e q =>
      cases r
      obtain ⟨z, its, rv, o, ho, hc, n, hd⟩ := ok _ _ e
      exact .tup ho hc hd (by simpa using NkAll.is ok q rv)
theorem NkAll.is {P : Program} {w : World} {H : Hp} {h : Heap} (ok : HOk P w H h) : ∀ {ks : List NestedKey} {vs : List V} {us : List Value}, NkAll H ks vs → Vals vs us → NestedAll h ks us
  | [], _, _, x, r => by cases x; cases r; exact .nil
  | k :: ks, _, _, x, r => by
    cases x with
    | cons x1 x2 => cases r with | cons r1 r2 => exact .cons (NkV.is ok x1 r1) (NkAll.is ok x2 r2)
end
/-- the keys stand there -/
def DKs (H : Hp) (xs : DXs) : Prop := ∀ x ∈ xs, NkV H x.1 (.ref x.2.1) ∧ x.1.depth ≤ 8
theorem Paired.mem_r {α β : Type} {F : α → β → Prop} : ∀ {l₁ : List α} {l₂ : List β}, Paired F l₁ l₂ → ∀ b ∈ l₂, ∃ a ∈ l₁, F a b
  | _, _, .nil, b, h => by cases h
  | _, _, .cons r t, b, h => by
    rcases List.mem_cons.mp h with rfl | h
    · exact ⟨_, List.mem_cons_self, r⟩
    · obtain ⟨a, h1, h2⟩ := Paired.mem_r t b h
      exact ⟨a, List.mem_cons_of_mem _ h1, h2⟩
section
variable {P : Program} {w : World} {H : Hp} {h : Heap} {d : Addr} {xs : DXs}
theorem dic_of (ok : HOk P w H h) (e : H d = some (dicO P w d xs)) (ks : DKs H xs) : (d == sysModules) = false ∧ xs.length ≤ 100000 ∧ ∃ us, Paired RelX xs us ∧ h.DictOfH (nestedKind P w) d us := by
  obtain ⟨⟨hs, hl, us, r, o, es, ep, ho, hx, hd, he, hn⟩, _, _⟩ := ok _ _ e
  refine ⟨hs, hl, us, r, o, es, ep, ho, hx, hd, he, fun x hm => ?_, hn⟩
  obtain ⟨y, hy, r1, r2, _⟩ := Paired.mem_r r x hm
  obtain ⟨k1, k2⟩ := ks y hy
  rw [← r1, ← r2]
  exact ⟨k1.is ok rfl, k2⟩
def atX (xs : DXs) (k : NestedKey) : Option V := (xs.find? fun x => decide (x.1 = k)).map (·.2.2)
def putX (k : NestedKey) (v : V) (x : NestedKey × Addr × V) : NestedKey × Addr × V := if x.1 = k then (x.1, x.2.1, v) else x
def storedX (xs : DXs) (k : NestedKey) (a : Addr) (v : V) : DXs := if (atX xs k).isSome then xs.map (putX k v) else xs ++ [(k, a, v)]
theorem at_rel : ∀ {xs : DXs} {us : List (NestedKey × Addr × Value)} (k : NestedKey), Paired RelX xs us → (atX xs k = none ∧ atKey us k = none) ∨ ∃ v a u, atX xs k = some v ∧ atKey us k = some (a, u) ∧ RelV v u
  | _, _, k, .nil => .inl ⟨rfl, rfl⟩
  | x :: xs, u :: us, k, .cons r t => by
    obtain ⟨r1, r2, r3⟩ := r
    unfold atX atKey
    rw [List.find?_cons, List.find?_cons, r1]
    by_cases h : u.1 = k
    · rw [decide_eq_true h]
      exact .inr ⟨x.2.2, u.2.1, u.2.2, rfl, rfl, r3⟩
    · rw [decide_eq_false h]
      exact at_rel k t
theorem stored_rel {us : List (NestedKey × Addr × Value)} {k : NestedKey} {a : Addr} {v : V} {u : Value} (r : Paired RelX xs us) (ru : RelV v u) : Paired RelX (storedX xs k a v) (storedH us k a u) := by
  have mp : ∀ {xs : DXs} {us : List (NestedKey × Addr × Value)}, Paired RelX xs us → Paired RelX (xs.map (putX k v)) (us.map (putAt k u)) := by
    intro xs us r
    induction r with
    | nil => exact .nil
    | cons r1 _ ih =>
      obtain ⟨e1, e2, e3⟩ := r1
      refine .cons ?_ ih
      unfold putX putAt
      rw [e1]
      split
      · exact ⟨rfl, e2, ru⟩
      · exact ⟨e1, e2, e3⟩
  have ap : ∀ {xs : DXs} {us : List (NestedKey × Addr × Value)}, Paired RelX xs us → Paired RelX (xs ++ [(k, a, v)]) (us ++ [(k, a, u)]) := by
    intro xs us r
    induction r with
    | nil => exact .cons ⟨rfl, rfl, ru⟩ .nil
    | cons r1 _ ih => exact .cons r1 ih
  unfold storedX storedH
  rcases at_rel k r with ⟨h1, h2⟩ | ⟨v', a', u', h1, h2, _⟩
  · rw [h1, h2]; exact ap r
  · rw [h1, h2]; exact mp r
theorem stored_len (k : NestedKey) (a : Addr) (v : V) : (storedX xs k a v).length ≤ xs.length + 1 := by
  unfold storedX
  split
  · rw [List.length_map]; omega
  · rw [List.length_append, List.length_singleton]; exact Nat.le_refl _
end
section
variable {X : Cx}
/-- k in d -/
def rInX (P : Program) (w : World) : R2 := fun x y H Q => ∃ a d xs k, x = .ref a ∧ y = .ref d ∧ H d = some (dicO P w d xs) ∧ DKs H xs ∧ NkV H k (.ref a) ∧ k.depth ≤ 8 ∧ Q (.bl (atX xs k).isSome) H
theorem op_inX (hu : X.A.units + 64 < cLine) : OpR X (compareOp .In) (rInX X.prog X.w) := by
  intro pins s σ H x y v u Q I rx ry h
  obtain ⟨a, d, xs, k, rfl, rfl, e, ks, hk, kd, q⟩ := h
  cases rx
  cases ry
  obtain ⟨hs, hl, us, r, hm⟩ := dic_of I.hok e ks
  refine wpAny_in_heap (knd := nestedKind X.prog X.w) (by show X.A.in1.units + 8 < cLine; rw [Around.in1_units]; omega) ⟨hk.is I.hok rfl, kd⟩ hs hm ?_
  refine ⟨.bl _, H, I.tok _, ?_, q⟩
  rcases at_rel k r with ⟨h1, h2⟩ | ⟨v', a', u', h1, h2, _⟩
  · rw [h1, h2]; rfl
  · rw [h1, h2]; rfl
theorem op_notInX (hu : X.A.units + 64 < cLine) : OpR X (compareOp .NotIn) (fun x y H Q => ∃ a d xs k, x = .ref a ∧ y = .ref d ∧ H d = some (dicO X.prog X.w d xs) ∧ DKs H xs ∧ NkV H k (.ref a) ∧ k.depth ≤ 8 ∧ Q (.bl (!(atX xs k).isSome)) H) := by
  intro pins s σ H x y v u Q I rx ry h
  obtain ⟨a, d, xs, k, rfl, rfl, e, ks, hk, kd, q⟩ := h
  cases rx
  cases ry
  obtain ⟨hs, hl, us, r, hm⟩ := dic_of I.hok e ks
  show wpAny _ _ (do return Value.bool (!(← contains (.ref d) (.ref a)))) _ _ s
  refine wpAny_bind (wpAny_contains_heap (knd := nestedKind X.prog X.w) (by show X.A.in1.units + 8 < cLine; rw [Around.in1_units]; omega) ⟨hk.is I.hok rfl, kd⟩ hs hm (wpAny_pure ?_))
  refine ⟨.bl _, H, I.tok _, ?_, q⟩
  rcases at_rel k r with ⟨h1, h2⟩ | ⟨v', a', u', h1, h2, _⟩
  · rw [h1, h2]; rfl
  · rw [h1, h2]; rfl
/-- d[k] -/
def rIxX (P : Program) (w : World) : R2 := fun x y H Q => ∃ a d xs k v, x = .ref d ∧ y = .ref a ∧ H d = some (dicO P w d xs) ∧ DKs H xs ∧ NkV H k (.ref a) ∧ k.depth ≤ 8 ∧ atX xs k = some v ∧ Q v H
theorem ix_X (hu : X.A.units + 64 < cLine) : IxR X (rIxX X.prog X.w) := by
  intro value slice pins s σ H x y v u Q I rx ry h hsl
  obtain ⟨a, d, xs, k, v0, rfl, rfl, e, ks, hk, kd, ha, q⟩ := h
  cases rx
  cases ry
  obtain ⟨hs, hl, us, r, hm⟩ := dic_of I.hok e ks
  rcases at_rel k r with ⟨h1, h2⟩ | ⟨v', a', u', h1, h2, h3⟩
  · rw [ha] at h1; cases h1
  · rw [ha] at h1; cases h1
    exact tail_any hm.typeIs slot_dict_getitem.lookup (wpAny_getItem_heap (knd := nestedKind X.prog X.w) (by show X.A.in1.units + 8 < cLine; rw [Around.in1_units]; omega) ⟨hk.is I.hok rfl, kd⟩ hm h2 ⟨v0, H, I.tok _, h3, q⟩) hsl
/-- d[k] = v -/
def rSetX (P : Program) (w : World) : TSet := fun o i v H Q => ∃ a d xs k, o = .ref d ∧ i = .ref a ∧ H d = some (dicO P w d xs) ∧ DKs H xs ∧ NkV H k (.ref a) ∧ k.depth ≤ 8 ∧ xs.length < 100000 ∧ Q (upd H d (dicO P w d (storedX xs k a v)))
theorem set_X (hu : X.A.units + 64 < cLine) : PSet X (rSetX X.prog X.w) := by
  intro pins s σ H o i v ov iv u Q I ro ri rv h
  obtain ⟨a, d, xs, k, rfl, rfl, e, ks, hk, kd, hlt, q⟩ := h
  cases ro
  cases ri
  obtain ⟨hs, hl, us, r, hm⟩ := dic_of I.hok e ks
  have hlen : us.length = xs.length := (Paired.length r).symm
  refine wpAny_setItem_heap (knd := nestedKind X.prog X.w) (hsz := by rw [hlen, sizeLine_eq]; omega) (by show X.A.in1.units + 8 < cLine; rw [Around.in1_units]; omega) ⟨hk.is I.hok rfl, kd⟩ hm fun h' hm' sb => ?_
  obtain ⟨o', es', ep', ho', hx', hd', he', hi', hn'⟩ := hm'
  refine ⟨_, I.write (x := d) (e := d) (o := dicO X.prog X.w d (storedX xs k a v)) (h' := h') (by rw [e]; trivial) (.inl rfl) (fun b o hb q => (sb.2 b hb).trans q) ⟨_, ho'⟩ ?_, q⟩
  refine ⟨⟨hs, Nat.le_trans (stored_len k a v) (by omega), _, stored_rel r rv, o', es', ep', ho', hx', hd', he', hn'⟩, ⟨_, ho'⟩, fun h1 h2 p st => ?_⟩
  obtain ⟨p1, p2, us2, p3, o2, es2, ep2, p4, p5⟩ := p
  exact ⟨p1, p2, us2, p3, o2, es2, ep2, st _ p4, p5⟩
/-- {} -/
def tDNewX (P : Program) (w : World) : TE := fun _ H Q => ∀ p, H p = none → Q (.ref p) (upd H p (dicO P w p []))
theorem pe_dnewX {pos : Pos} : PE X (.Dict [] [] pos) (tDNewX X.prog X.w) := ⟨fun pins s σ H Q I h =>
  wpAny_Dict_empty ⟨.ref s.heap.objs.size, _, I.laid (a := s.heap.objs.size) (o := dicO X.prog X.w _ []) (t' := s.toks) (fun _ _ q => Heap.get?_push_of_some _ q) (Nat.le_refl _) (by
    refine ⟨⟨beq_eq_false_iff_ne.mpr (Ne.symm (Nat.ne_of_lt I.big)), Nat.zero_le _, [], .nil, _, #[], 0, Heap.get?_push_size _ rfl, ⟨rfl, rfl, rfl⟩, rfl, rfl, List.nodup_nil⟩, ⟨_, Heap.get?_push_size _ rfl⟩, fun h1 h2 p st => ?_⟩
    obtain ⟨p1, p2, us2, p3, o2, es2, ep2, p4, p5⟩ := p
    exact ⟨p1, p2, us2, p3, o2, es2, ep2, st _ p4, p5⟩), rfl, h _ (I.hok.fresh (Nat.le_refl _))⟩⟩
end
end DN

set_option maxHeartbeats 1000000
/-! what code computes that changes objects: cells and their contents -/
namespace DN
open PySem PySem.Spec PyProof.Rows L2 KG
/-- a cell: a list, an object of a class with its fields, a dict -/
inductive Cell where
  | lst (ds : List D) | ins (t : Nat) (fs : List (Str × D)) | dic (kvs : List (D × D)) | ora
/-- cls: the class Number; cl: the classes by their numbers -/
structure CS where
  cls : Addr
  cl : Nat → Addr
  P : Program
  w : World
  K : PySem.W.Frag
mutual
def nk : D → Option NestedKey
  | .non => some .none
  | .bl b => some (.num (if b = true then 1 else 0))
  | .int i => some (.num i)
  | .str x => some (.text x)
  | .tup ds => (nks ds).bind fun ks => some (.tup ks)
  | _ => none
def nks : List D → Option (List NestedKey)
  | [] => some []
  | d :: ds => (nk d).bind fun k => (nks ds).bind fun ks => some (k :: ks)
end
mutual
theorem Rp.nk {C : Addr} {A : List Addr} {G H : Hp} (sm : Same G H) : ∀ {d : D} {v : V} {k : NestedKey}, Rp C A G v d → DN.nk d = some k → NkV H k v
  | .non, _, _, h, e => by cases h; cases e; exact .non
  | .bl b, _, _, h, e => by cases h; cases e; exact .bl b
  | .int i, _, _, h, e => by cases h; cases e; exact .int i
  | .str x, _, _, h, e => by cases h; cases e; exact .str x
  | .tup ds, _, _, h, e => by
    cases h with
    | tup ea r =>
      obtain ⟨ks, h1, e⟩ := obind (show ((nks ds).bind fun ks => some (NestedKey.tup ks)) = _ from e)
      cases e
      exact .tup (sm _ _ ea) (RpAll.nk sm r h1)
  | .lst _, _, _, _, e => by cases e
  | .num _ _, _, _, _, e => by cases e
  | .ref _, _, _, _, e => by cases e
theorem RpAll.nk {C : Addr} {A : List Addr} {G H : Hp} (sm : Same G H) : ∀ {ds : List D} {vs : List V} {ks : List NestedKey}, RpAll C A G vs ds → nks ds = some ks → NkAll H ks vs
  | [], _, _, h, e => by cases h; cases e; exact .nil
  | d :: ds, _, _, h, e => by
    cases h with
    | cons r1 r2 =>
      obtain ⟨k, h1, e⟩ := obind (show ((DN.nk d).bind fun k => (nks ds).bind fun ks => some (k :: ks)) = _ from e)
      obtain ⟨ks, h2, e⟩ := obind e
      cases e
      exact .cons (Rp.nk sm r1 h1) (RpAll.nk sm r2 h2)
end
/-- fields of an object -/
inductive RpFs (C : Addr) (A : List Addr) (G : Hp) : List (Str × V) → List (Str × D) → Prop
  | nil : RpFs C A G [] []
  | cons {f : Str} {v : V} {d : D} {us : List (Str × V)} {fs : List (Str × D)} : Rp C A G v d → RpFs C A G us fs → RpFs C A G ((f, v) :: us) ((f, d) :: fs)
/-- entries of a dict -/
inductive RpKs (C : Addr) (A : List Addr) (G : Hp) : DXs → List (D × D) → Prop
  | nil : RpKs C A G [] []
  | cons {k : NestedKey} {a : Addr} {v : V} {kd vd : D} {xs : DXs} {kvs : List (D × D)} : Rp C A G (.ref a) kd → nk kd = some k → k.depth ≤ 8 → Rp C A G v vd → RpKs C A G xs kvs → RpKs C A G ((k, a, v) :: xs) ((kd, vd) :: kvs)
def CellOk (S : CS) (A : List Addr) (G H : Hp) (a : Addr) : Cell → Prop
  | .lst ds => ∃ vs, H a = some (.lst vs) ∧ RpAll S.cls A G vs ds
  | .ins t fs => ∃ dx us, H a = some (.ins (S.cl t) dx us) ∧ RpFs S.cls A G us fs
  | .dic kvs => ∃ xs, H a = some (dicO S.P S.w a xs) ∧ RpKs S.cls A G xs kvs
  | .ora => ∃ sa ns, StX H a sa ns ∧ SqL S.K G sa (ns.map V.int)
/-- the world as it stands: what stands for good, and the cells -/
structure Wd (S : CS) (A : List Addr) (μ : List Cell) (G H : Hp) : Prop where
  same : Same G H
  len : A.length = μ.length
  nd : A.Nodup
  cell : ∀ (i : Nat) (a : Addr) (c : Cell), A[i]? = some a → μ[i]? = some c → G a = none ∧ CellOk S A G H a c
/-- from one world to a later one: cells may change, what else stands stays -/
structure Ex (A : List Addr) (G H : Hp) (A' : List Addr) (G' H' : Hp) : Prop where
  a : ∃ nw, A' = A ++ nw ∧ ∀ b ∈ nw, H b = none
  g : Same G G'
  h : ∀ b o, b ∉ A → H b = some o → H' b = some o
  f : ∀ b o, H b = some o → G b = none → G' b = none
  l : ∀ b o, H b = some o → ∃ o', H' b = some o'
theorem Ex.refl {A : List Addr} {G H : Hp} : Ex A G H A G H := ⟨⟨[], by simp, fun _ h => by cases h⟩, fun _ _ h => h, fun _ _ _ h => h, fun _ _ _ h => h, fun _ o h => ⟨o, h⟩⟩
theorem Ex.of {A : List Addr} {G H G' H' : Hp} (x : Ext G H G' H') : Ex A G H A G' H' := ⟨⟨[], by simp, fun _ h => by cases h⟩, x.g, fun b o _ h => x.h b o h, x.f, fun b o h => ⟨o, x.h b o h⟩⟩
theorem Ex.trans {A A1 A2 : List Addr} {G H G1 H1 G2 H2 : Hp} (x : Ex A G H A1 G1 H1) (y : Ex A1 G1 H1 A2 G2 H2) : Ex A G H A2 G2 H2 := by
  obtain ⟨n1, e1, f1⟩ := x.a
  obtain ⟨n2, e2, f2⟩ := y.a
  refine ⟨⟨n1 ++ n2, by rw [e2, e1, List.append_assoc], fun b hb => ?_⟩, x.g.trans y.g, fun b o nb h => ?_, fun b o h n => ?_, fun b o h => ?_⟩
  · rcases List.mem_append.mp hb with hb | hb
    · exact f1 b hb
    · cases q : H b with
      | none => rfl
      | some o =>
        obtain ⟨o', h'⟩ := x.l b o q
        rw [f2 b hb] at h'; cases h'
  · refine y.h b o (fun hb => ?_) (x.h b o nb h)
    rw [e1] at hb
    rcases List.mem_append.mp hb with hb | hb
    · exact nb hb
    · rw [f1 b hb] at h; cases h
  · obtain ⟨o', h'⟩ := x.l b o h
    exact y.f b o' h' (x.f b o h n)
  · obtain ⟨o', h'⟩ := x.l b o h
    exact y.l b o' h'
section
variable {C : Addr} {A A' : List Addr} {G G' : Hp}
theorem get_pre {i : Nat} {a : Addr} {nw : List Addr} (e : A' = A ++ nw) (h : A[i]? = some a) : A'[i]? = some a := by
  rw [e, List.getElem?_append_left (List.getElem?_eq_some_iff.mp h).1]; exact h
mutual
theorem Rp.up (p : ∃ nw, A' = A ++ nw) (s : Same G G') : ∀ {d : D} {v : V}, Rp C A G v d → Rp C A' G' v d
  | .non, _, h => by cases h; exact .non
  | .bl b, _, h => by cases h; exact .bl b
  | .int i, _, h => by cases h; exact .int i
  | .str x, _, h => by cases h; exact .str x
  | .tup ds, _, h => by cases h with | tup e r => exact .tup (s _ _ e) (RpAll.up p s r)
  | .lst ds, _, h => by cases h with | lst e r => exact .lst (s _ _ e) (RpAll.up p s r)
  | .num t e, _, h => by cases h with | num e1 r1 r2 => exact .num (s _ _ e1) (Rp.up p s r1) (Rp.up p s r2)
  | .ref i, _, h => by cases h with | ref e => obtain ⟨nw, q⟩ := p; exact .ref (get_pre q e)
theorem RpAll.up (p : ∃ nw, A' = A ++ nw) (s : Same G G') : ∀ {ds : List D} {vs : List V}, RpAll C A G vs ds → RpAll C A' G' vs ds
  | [], _, h => by cases h; exact .nil
  | d :: ds, _, h => by cases h with | cons r1 r2 => exact .cons (Rp.up p s r1) (RpAll.up p s r2)
end
theorem RpFs.up (p : ∃ nw, A' = A ++ nw) (s : Same G G') {fs : List (Str × D)} {us : List (Str × V)} (h : RpFs C A G us fs) : RpFs C A' G' us fs := by
  induction h with
  | nil => exact .nil
  | cons r _ ih => exact .cons (r.up p s) ih
theorem RpKs.up (p : ∃ nw, A' = A ++ nw) (s : Same G G') {kvs : List (D × D)} {xs : DXs} (h : RpKs C A G xs kvs) : RpKs C A' G' xs kvs := by
  induction h with
  | nil => exact .nil
  | cons r1 k d r2 _ ih => exact .cons (r1.up p s) k d (r2.up p s) ih
theorem Ex.pre {H H' : Hp} (x : Ex A G H A' G' H') : ∃ nw, A' = A ++ nw := let ⟨nw, e, _⟩ := x.a; ⟨nw, e⟩
theorem CellOk.up {S : CS} {H H' : Hp} {a : Addr} {c : Cell} (p : ∃ nw, A' = A ++ nw) (s : Same G G') (e : H' a = H a) (h : CellOk S A G H a c) : CellOk S A' G' H' a c := by
  cases c with
  | lst ds => obtain ⟨vs, h1, h2⟩ := h; exact ⟨vs, e.trans h1, h2.up p s⟩
  | ins K fs => obtain ⟨dx, us, h1, h2⟩ := h; exact ⟨dx, us, e.trans h1, h2.up p s⟩
  | dic kvs => obtain ⟨xs, h1, h2⟩ := h; exact ⟨xs, e.trans h1, h2.up p s⟩
  | ora => obtain ⟨sa, ns, h1, h2⟩ := h; exact ⟨sa, ns, h1.but e, Same.seq s h2⟩
theorem CellOk.some {S : CS} {H : Hp} {a : Addr} {c : Cell} (h : CellOk S A G H a c) : ∃ o, H a = some o := by
  cases c with
  | lst ds => obtain ⟨vs, h1, h2⟩ := h; exact ⟨_, h1⟩
  | ins K fs => obtain ⟨dx, us, h1, h2⟩ := h; exact ⟨_, h1⟩
  | dic kvs => obtain ⟨xs, h1, h2⟩ := h; exact ⟨_, h1⟩
  | ora => obtain ⟨sa, ns, ⟨e, r, c, m, h1, _⟩, h2⟩ := h; exact ⟨_, h1⟩
end
section
variable {S : CS} {A : List Addr} {μ : List Cell} {G H : Hp}
theorem Wd.at (W : Wd S A μ G H) {a : Addr} (h : a ∈ A) : ∃ (i : Nat) (c : Cell), A[i]? = some a ∧ μ[i]? = some c := by
  obtain ⟨i, hi, e⟩ := List.mem_iff_getElem.mp h
  exact ⟨i, μ[i]'(by rw [← W.len]; exact hi), by rw [List.getElem?_eq_getElem hi, e], List.getElem?_eq_getElem _⟩
theorem Wd.cel (W : Wd S A μ G H) : Cel A G H := fun a ha => by
  obtain ⟨i, c, h1, h2⟩ := W.at ha
  obtain ⟨n, ok⟩ := W.cell i a c h1 h2
  exact ⟨ok.some, n⟩
theorem Wd.ext (W : Wd S A μ G H) {G' H' : Hp} (x : Ext G H G' H') : Wd S A μ G' H' := by
  refine ⟨x.s, W.len, W.nd, fun i a c h1 h2 => ?_⟩
  obtain ⟨n, ok⟩ := W.cell i a c h1 h2
  obtain ⟨o, e⟩ := ok.some
  exact ⟨x.f _ _ e n, ok.up ⟨[], by simp⟩ x.g ((x.h _ _ e).trans e.symm)⟩
/-- a cell's content is laid anew -/
theorem Wd.put (W : Wd S A μ G H) {i : Nat} {a : Addr} {c : Cell} {o : HO} (hi : A[i]? = some a) (ok : CellOk S A G (upd H a o) a c) (hl : i < μ.length) : Wd S A (μ.set i c) G (upd H a o) ∧ Ex A G H A G (upd H a o) := by
  have ha : a ∈ A := List.mem_of_getElem? hi
  obtain ⟨⟨o', e⟩, n⟩ := W.cel a ha
  refine ⟨⟨fun b u q => by rw [upd_ne (fun z => by rw [z, n] at q; cases q)]; exact W.same _ _ q, by rw [List.length_set]; exact W.len, W.nd, fun j b d h1 h2 => ?_⟩,
    ⟨[], by simp, fun _ h => by cases h⟩, fun _ _ h => h, fun b u nb q => by rw [upd_ne (fun z => by subst z; exact nb ha)]; exact q, fun _ _ _ h => h, fun b u q => ?_⟩
  · rcases set_get h2 with ⟨rfl, rfl, _⟩ | ⟨ne, h2⟩
    · rw [hi] at h1; cases h1; exact ⟨n, ok⟩
    · obtain ⟨n', ok'⟩ := W.cell j b d h1 h2
      have nb : b ≠ a := fun z => by
        subst z
        have hij := (List.getElem?_inj (List.getElem?_eq_some_iff.mp hi).1 W.nd).mp (hi.trans h1.symm)
        exact ne hij.symm
      exact ⟨n', ok'.up ⟨[], by simp⟩ (fun _ _ h => h) (upd_ne nb)⟩
  · by_cases z : b = a
    · exact ⟨o, by rw [z]; exact upd_same⟩
    · exact ⟨u, by rw [upd_ne z]; exact q⟩
end
theorem En.up {S : CS} {A A' : List Addr} {μ' : List Cell} {H0 G H G' H' : Hp} {σ : L2.St} {ρ : List Sl} (e : En S.cls A H0 G H σ ρ) (x : Ex A G H A' G' H') (W : Wd S A' μ' G' H') : En S.cls A' H0 G' H' σ ρ := by
  refine ⟨e.len, fun i d h => ?_, fun i ds h => ?_, e.sep, W.cel⟩
  · obtain ⟨v, h1, h2⟩ := e.val i d h
    exact ⟨v, h1, h2.up x.pre x.g⟩
  · obtain ⟨a, vs, h1, h2, h3, h4, h5, h6⟩ := e.own i ds h
    refine ⟨a, vs, h1, x.h _ _ h6 h2, x.f _ _ h2 h3, h4, h5.up x.pre x.g, fun hm => ?_⟩
    obtain ⟨nw, e1, f1⟩ := x.a
    rw [e1] at hm
    rcases List.mem_append.mp hm with hm | hm
    · exact h6 hm
    · rw [f1 a hm] at h2; cases h2
/-! ### readings -/
abbrev SD (α : Type) := List Sl → List Cell → Option (α × List Cell)
def tXs {α β : Type} (S : CS) (rep : List Addr → Hp → β → α → Prop) (den : SD α) : L2.St → Hp → (β → Hp → Prop) → Prop := fun σ H Q =>
  ∃ A μ H0 G ρ d μ', En S.cls A H0 G H σ ρ ∧ Wd S A μ G H ∧ den ρ μ = some (d, μ') ∧ ∀ A' G' H' v, Ex A G H A' G' H' → Wd S A' μ' G' H' → rep A' G' v d → Q v H'
abbrev zD (S : CS) (den : SD D) : TE := tXs S (Rp S.cls) den
abbrev zA (S : CS) (den : SD (List D)) : TA := tXs S (RpAll S.cls) den
abbrev zB (S : CS) (den : SD Bool) : TT := tXs S eqR den
abbrev zP (S : CS) (den : SD (Option Int)) : TO := tXs S eqR den
def lf {α : Type} (den : List Sl → Option α) : SD α := fun ρ μ => (den ρ).bind fun d => some (d, μ)
theorem z_lift {α β : Type} {S : CS} {rep : List Addr → Hp → β → α → Prop} {den : List Sl → Option α} : ∀ σ H Q, tXs S rep (lf den) σ H Q → tX S.cls rep den σ H Q := fun σ H Q ⟨A, μ, H0, G, ρ, d, μ', en, W, hd, k⟩ => by
  obtain ⟨d', h1, hd⟩ := obind hd
  cases hd
  exact ⟨A, H0, G, ρ, _, en, W.same, h1, fun G' H' v x r => k A G' H' v (.of x) (W.ext x) r⟩
section
variable {X : Cx} {S : CS} {pos : Pos}
theorem zl {e : Expr} {d : List Sl → Option D} (h : PE X e (tD S.cls d)) : PE X e (zD S (lf d)) := pe_to h z_lift
theorem zlt {e : Expr} {d : List Sl → Option Bool} (h : PT X e (tB S.cls d)) : PT X e (zB S (lf d)) := pt_to h z_lift
theorem zla {es : List Expr} {d : List Sl → Option (List D)} (h : PA X es (tA S.cls d)) : PA X es (zA S (lf d)) := pa_to h z_lift
theorem zlo {e : Option Expr} {d : List Sl → Option (Option Int)} (h : PO X e (tP S.cls d)) : PO X e (zP S (lf d)) := po_to h z_lift
theorem zlw {e : Expr} {d : List Sl → Option Bool} (h : PW X e (tB S.cls d)) : PW X e (zB S (lf d)) := pw_to h z_lift
/-! two and one -/
def z2 (f : D → D → Option D) (da db : SD D) : SD D := fun ρ μ => (da ρ μ).bind fun p => (db ρ p.2).bind fun q => (f p.1 q.1).bind fun d => some (d, q.2)
def z1 (f : D → Option D) (da : SD D) : SD D := fun ρ μ => (da ρ μ).bind fun p => (f p.1).bind fun d => some (d, p.2)
theorem iz2 {r : R2} {f : D → D → Option D} (h : Is2 S.cls r f) (da db : SD D) : ∀ σ H Q, zD S (z2 f da db) σ H Q → tOp r (zD S da) (zD S db) σ H Q := fun σ H Q ⟨A, μ, H0, G, ρ, d, μ', en, W, hd, k⟩ => by
  obtain ⟨⟨a, μ1⟩, ha, hd⟩ := obind hd
  obtain ⟨⟨b, μ2⟩, hb, hd⟩ := obind hd
  obtain ⟨c, hc, hd⟩ := obind hd
  cases hd
  exact ⟨A, μ, H0, G, ρ, a, μ1, en, W, ha, fun A1 G1 H1 x x1 W1 r1 => ⟨A1, μ1, H0, G1, ρ, b, _, en.up x1 W1, W1, hb, fun A2 G2 H2 y x2 W2 r2 =>
    h A2 G2 H2 x y a b _ Q W2.same (r1.up x2.pre x2.g) r2 hc fun G' H' v x3 r3 => k A2 G' H' v ((x1.trans x2).trans (.of x3)) (W2.ext x3) r3⟩⟩
theorem iz1 {r : V → Hp → VK → Prop} {f : D → Option D} (h : Is1 S.cls r f) (da : SD D) : ∀ σ H Q, zD S (z1 f da) σ H Q → tUn r (zD S da) σ H Q := fun σ H Q ⟨A, μ, H0, G, ρ, d, μ', en, W, hd, k⟩ => by
  obtain ⟨⟨a, μ1⟩, ha, hd⟩ := obind hd
  obtain ⟨c, hc, hd⟩ := obind hd
  cases hd
  exact ⟨A, μ, H0, G, ρ, a, μ1, en, W, ha, fun A1 G1 H1 x x1 W1 r1 => h A1 G1 H1 x a _ Q W1.same r1 hc fun G' H' v x3 r3 => k A1 G' H' v (x1.trans (.of x3)) (W1.ext x3) r3⟩
theorem zn_op {op : Operator} {r : R2} {f : D → D → Option D} {a b : Expr} {da db : SD D} (h : Is2 S.cls r f) (ho : OpR X (binaryOp op) r) (ha : PE X a (zD S da)) (hb : PE X b (zD S db)) : PE X (.BinOp a op b pos) (zD S (z2 f da db)) := pe_to (pe_op ho ha hb) (iz2 h da db)
theorem zn_un {op : UnaryOp} {r : V → Hp → VK → Prop} {f : D → Option D} {a : Expr} {da : SD D} (h : Is1 S.cls r f) (ho : UnR X (unaryOp op) r) (ha : PE X a (zD S da)) : PE X (.UnaryOp op a pos) (zD S (z1 f da)) := pe_to (pe_un ho ha) (iz1 h da)
theorem zn_cmp {op : CmpOp} {r : R2} {f : D → D → Option D} {a b : Expr} {da db : SD D} (h : Is2 S.cls r f) (ho : OpR X (compareOp op) r) (ha : PE X a (zD S da)) (hb : PE X b (zD S db)) (hm : behindInMarks op b = false) : PE X (.Compare a [op] [b] pos) (zD S (z2 f da db)) := pe_to (pe_cmpR ho ha hb hm) (iz2 h da db)
theorem zn_ix {a b : Expr} {da db : SD D} (ha : PE X a (zD S da)) (hb : PE X b (zD S db)) (hs : PlainIx b) : PE X (.Subscript a b pos) (zD S (z2 fIx da db)) := pe_to (pe_ix ix_seq ha hb hs) (iz2 is_ix da db)
section
variable {a b : Expr} {da db : SD D}
theorem zn_add (ha : PE X a (zD S da)) (hb : PE X b (zD S db)) : PE X (.BinOp a .Add b pos) (zD S (z2 fAdd da db)) := zn_op is_add op_addA ha hb
theorem zn_sub (ha : PE X a (zD S da)) (hb : PE X b (zD S db)) : PE X (.BinOp a .Sub b pos) (zD S (z2 fSub da db)) := zn_op is_i20 op_sub ha hb
theorem zn_mul (ha : PE X a (zD S da)) (hb : PE X b (zD S db)) : PE X (.BinOp a .Mult b pos) (zD S (z2 fMul da db)) := zn_op is_mul op_mulA ha hb
theorem zn_div (ha : PE X a (zD S da)) (hb : PE X b (zD S db)) : PE X (.BinOp a .FloorDiv b pos) (zD S (z2 fDiv da db)) := zn_op (is_i2 cDiv_ok) op_fdivZ ha hb
theorem zn_mod (ha : PE X a (zD S da)) (hb : PE X b (zD S db)) : PE X (.BinOp a .Mod b pos) (zD S (z2 fMod da db)) := zn_op (is_i2 fun _ _ h => of_decide_eq_true h) op_modN ha hb
theorem zn_neg (ha : PE X a (zD S da)) : PE X (.UnaryOp .USub a pos) (zD S (z1 (fI1 fun i => -i) da)) := zn_un is_u un_neg ha
theorem zn_eq (hu : X.A.units + 64 < cLine) (ha : PE X a (zD S da)) (hb : PE X b (zD S db)) : PE X (.Compare a [.Eq] [b] pos) (zD S (z2 fEq da db)) := zn_cmp (r := rEqA X.K) is_eq (op_eq.or (op_eqD hu)) ha hb (nomark _)
theorem zn_ne (hu : X.A.units + 64 < cLine) (ha : PE X a (zD S da)) (hb : PE X b (zD S db)) : PE X (.Compare a [.NotEq] [b] pos) (zD S (z2 fNe da db)) := zn_cmp (r := rNeA X.K) is_ne (op_ne.or (op_neD hu)) ha hb (nomark _)
theorem zn_lt (ha : PE X a (zD S da)) (hb : PE X b (zD S db)) : PE X (.Compare a [.Lt] [b] pos) (zD S (z2 (fB20 fun i j => decide (i < j)) da db)) := zn_cmp is_b20 op_lt ha hb (nomark _)
theorem zn_le (ha : PE X a (zD S da)) (hb : PE X b (zD S db)) : PE X (.Compare a [.LtE] [b] pos) (zD S (z2 (fB20 fun i j => decide (i ≤ j)) da db)) := zn_cmp is_b20 op_le ha hb (nomark _)
theorem zn_gt (ha : PE X a (zD S da)) (hb : PE X b (zD S db)) : PE X (.Compare a [.Gt] [b] pos) (zD S (z2 (fB20 fun i j => decide (j < i)) da db)) := zn_cmp is_b20 op_gt ha hb (nomark _)
theorem zn_ge (ha : PE X a (zD S da)) (hb : PE X b (zD S db)) : PE X (.Compare a [.GtE] [b] pos) (zD S (z2 (fB20 fun i j => decide (j ≤ i)) da db)) := zn_cmp is_b20 op_ge ha hb (nomark _)
end
/-! arguments, displays -/
def y0 : SD (List D) := fun _ μ => some ([], μ)
def yc (d : SD D) (ds : SD (List D)) : SD (List D) := fun ρ μ => (d ρ μ).bind fun p => (ds ρ p.2).bind fun q => some (p.1 :: q.1, q.2)
theorem za_nil : PA X [] (zA S y0) := pa_to pa_nil fun σ H Q ⟨A, μ, H0, G, ρ, d, μ', en, W, hd, k⟩ => by cases hd; exact k A G H [] .refl W .nil
theorem za_cons {e : Expr} {es : List Expr} {d : SD D} {ds : SD (List D)} (ha : PE X e (zD S d)) (hr : PA X es (zA S ds)) (hs : starEach (e :: es) X.env = (false, eval e X.env) :: starEach es X.env := by rfl) : PA X (e :: es) (zA S (yc d ds)) :=
  pa_to (pa_cons ha hr hs) fun σ H Q ⟨A, μ, H0, G, ρ, z, μ', en, W, hd, k⟩ => by
    obtain ⟨⟨a, μ1⟩, h1, hd⟩ := obind hd
    obtain ⟨⟨as, μ2⟩, h2, hd⟩ := obind hd
    cases hd
    exact ⟨A, μ, H0, G, ρ, a, μ1, en, W, h1, fun A1 G1 H1 x x1 W1 r1 => ⟨A1, μ1, H0, G1, ρ, as, _, en.up x1 W1, W1, h2, fun A2 G2 H2 xs x2 W2 r2 => k A2 G2 H2 _ (x1.trans x2) W2 (.cons (r1.up x2.pre x2.g) r2)⟩⟩
def zTup (das : SD (List D)) : SD D := fun ρ μ => (das ρ μ).bind fun p => if decide (p.1.length ≤ szB) then some (.tup p.1, p.2) else none
def zLst (das : SD (List D)) : SD D := fun ρ μ => (das ρ μ).bind fun p => if decide (p.1.length ≤ szB) then some (.lst p.1, p.2) else none
theorem zn_tup {es : List Expr} {x1} {das : SD (List D)} (h : PA X es (zA S das)) : PE X (.Tuple es x1 pos) (zD S (zTup das)) :=
  pe_to (pe_tup h) fun σ H Q ⟨A, μ, H0, G, ρ, d, μ', e, W, hd, k⟩ => by
    obtain ⟨⟨ds, μ1⟩, h1, hd⟩ := obind hd
    obtain ⟨hz, hd⟩ := oif hd
    cases hd
    refine ⟨A, μ, H0, G, ρ, ds, _, e, W, h1, fun A1 G1 H1 xs x1 W1 r1 => ⟨by rw [r1.len]; exact sz_ok hz, fun p np => ?_⟩⟩
    have x2 := Ext.new W1.same np (.tup xs)
    exact k A1 _ _ _ (x1.trans (.of x2)) (W1.ext x2) (.tup upd_same (r1.mono (same_new (none_of W1.same np) _)))
theorem zn_lst {es : List Expr} {das : SD (List D)} (h : PA X es (zA S das)) : PE X (.List es pos) (zD S (zLst das)) :=
  pe_to (pe_lst h) fun σ H Q ⟨A, μ, H0, G, ρ, d, μ', e, W, hd, k⟩ => by
    obtain ⟨⟨ds, μ1⟩, h1, hd⟩ := obind hd
    obtain ⟨hz, hd⟩ := oif hd
    cases hd
    refine ⟨A, μ, H0, G, ρ, ds, _, e, W, h1, fun A1 G1 H1 xs x1 W1 r1 => ⟨by rw [r1.len]; exact sz_ok hz, fun p np => ?_⟩⟩
    have x2 := Ext.new W1.same np (.lst xs)
    exact k A1 _ _ _ (x1.trans (.of x2)) (W1.ext x2) (.lst upd_same (r1.mono (same_new (none_of W1.same np) _)))
/-! tests -/
def zAsB (d : SD D) : SD Bool := fun ρ μ => (d ρ μ).bind fun p => (asB p.1).bind fun b => some (b, p.2)
theorem ztest_of {t : TE} {den : SD D} (h : ∀ σ H Q, zD S den σ H Q → t σ H Q) : ∀ σ H Q, zB S (zAsB den) σ H Q → tTest t σ H Q := fun σ H Q ⟨A, μ, H0, G, ρ, b, μ', en, W, hd, k⟩ => by
  obtain ⟨⟨d, μ1⟩, h1, hd⟩ := obind hd
  obtain ⟨b', hb, hd⟩ := obind hd
  cases hd
  have := asB_ok hb
  obtain rfl : d = .bl b := this
  exact h σ H _ ⟨A, μ, H0, G, ρ, .bl b, _, en, W, h1, fun A1 G1 H1 v x1 W1 r1 => by cases r1; exact ⟨b, rfl, k A1 G1 H1 b x1 W1 rfl⟩⟩
section
variable {a b : Expr} {da db : SD D}
theorem zt_cmp {op : CmpOp} {r : R2} {f : D → D → Option D} (h : Is2 S.cls r f) (ho : OpR X (compareOp op) r) (ha : PE X a (zD S da)) (hb : PE X b (zD S db)) (hm : behindInMarks op b = false) : PT X (.Compare a [op] [b] pos) (zB S (zAsB (z2 f da db))) := pt_to (pt_cmpR ho ha hb hm) (ztest_of (iz2 h da db))
theorem zt_eq (hu : X.A.units + 64 < cLine) (ha : PE X a (zD S da)) (hb : PE X b (zD S db)) : PT X (.Compare a [.Eq] [b] pos) (zB S (zAsB (z2 fEq da db))) := zt_cmp (r := rEqA X.K) is_eq (op_eq.or (op_eqD hu)) ha hb (nomark _)
theorem zt_ne (hu : X.A.units + 64 < cLine) (ha : PE X a (zD S da)) (hb : PE X b (zD S db)) : PT X (.Compare a [.NotEq] [b] pos) (zB S (zAsB (z2 fNe da db))) := zt_cmp (r := rNeA X.K) is_ne (op_ne.or (op_neD hu)) ha hb (nomark _)
theorem zt_lt (ha : PE X a (zD S da)) (hb : PE X b (zD S db)) : PT X (.Compare a [.Lt] [b] pos) (zB S (zAsB (z2 (fB20 fun i j => decide (i < j)) da db))) := zt_cmp is_b20 op_lt ha hb (nomark _)
theorem zt_le (ha : PE X a (zD S da)) (hb : PE X b (zD S db)) : PT X (.Compare a [.LtE] [b] pos) (zB S (zAsB (z2 (fB20 fun i j => decide (i ≤ j)) da db))) := zt_cmp is_b20 op_le ha hb (nomark _)
theorem zt_gt (ha : PE X a (zD S da)) (hb : PE X b (zD S db)) : PT X (.Compare a [.Gt] [b] pos) (zB S (zAsB (z2 (fB20 fun i j => decide (j < i)) da db))) := zt_cmp is_b20 op_gt ha hb (nomark _)
theorem zt_ge (ha : PE X a (zD S da)) (hb : PE X b (zD S db)) : PT X (.Compare a [.GtE] [b] pos) (zB S (zAsB (z2 (fB20 fun i j => decide (j ≤ i)) da db))) := zt_cmp is_b20 op_ge ha hb (nomark _)
theorem zis_isN : Is2 S.cls (fun x y H Q => y = .non ∧ Q (.bl (decide (x = .non))) H) fIsN := fun A G H x y a b d Q sm ra rb hd k => by
  obtain ⟨h1, h2⟩ := isn_ok ra rb hd
  subst h2
  exact ⟨h1, k G H _ (.refl sm) (.bl _)⟩
theorem zis_notN : Is2 S.cls (fun x y H Q => y = .non ∧ Q (.bl (!decide (x = .non))) H) fNotN := fun A G H x y a b d Q sm ra rb hd k => by
  obtain ⟨c, h0, hd⟩ := obind hd
  obtain ⟨h1, h2⟩ := isn_ok ra rb h0
  subst h2
  cases hd
  exact ⟨h1, k G H _ (.refl sm) (.bl _)⟩
theorem zt_isN {j pos'} (ha : PE X a (zD S da)) : PT X (.Compare a [.Is] [.Constant .none j pos'] pos) (zB S (zAsB (z2 fIsN da (lf (dK .non))))) := zt_cmp zis_isN op_isN ha (zl dn_non) (nomark _)
theorem zt_notN {j pos'} (ha : PE X a (zD S da)) : PT X (.Compare a [.IsNot] [.Constant .none j pos'] pos) (zB S (zAsB (z2 fNotN da (lf (dK .non))))) := zt_cmp zis_notN op_notN ha (zl dn_non) (nomark _)
end
def zTru (d : SD D) : SD Bool := fun ρ μ => (d ρ μ).bind fun p => (fTru p.1).bind fun b => some (b, p.2)
theorem zt_truth {a : Expr} {da : SD D} (ha : PE X a (zD S da)) (he : ∀ whole, isTrue a X.env whole = (do let v ← whole; standAt a.pos; holding [v] (truthy v)) := by intro _; rfl) : PT X a (zB S (zTru da)) :=
  pt_to (pt_truth ha he) fun σ H Q ⟨A, μ, H0, G, ρ, b, μ', en, W, hd, k⟩ => by
    obtain ⟨⟨d, μ1⟩, h1, hd⟩ := obind hd
    obtain ⟨b', hb, hd⟩ := obind hd
    cases hd
    exact ⟨A, μ, H0, G, ρ, d, _, en, W, h1, fun A1 G1 H1 v x1 W1 r1 => ⟨b, tru_rp W1.same r1 hb, k A1 G1 H1 b x1 W1 rfl⟩⟩
def zNot (d : SD Bool) : SD Bool := fun ρ μ => (d ρ μ).bind fun p => some (!p.1, p.2)
def zAnd (d e : SD Bool) : SD Bool := fun ρ μ => (d ρ μ).bind fun p => if p.1 then e ρ p.2 else some (false, p.2)
def zOr (d e : SD Bool) : SD Bool := fun ρ μ => (d ρ μ).bind fun p => if p.1 then some (true, p.2) else e ρ p.2
section
variable {a b : Expr} {rest : List Expr} {da db : SD Bool}
theorem zt_not (ha : PT X a (zB S da)) : PT X (.UnaryOp .Not a pos) (zB S (zNot da)) := pt_to (pt_not ha) fun σ H Q ⟨A, μ, H0, G, ρ, b, μ', en, W, hd, k⟩ => by
  obtain ⟨⟨d, μ1⟩, h1, hd⟩ := obind hd
  cases hd
  exact ⟨A, μ, H0, G, ρ, d, _, en, W, h1, fun A1 G1 H1 v x1 W1 r1 => k A1 G1 H1 _ x1 W1 (by show (!v) = !d; rw [show v = d from r1])⟩
theorem zw_and1 (ha : PT X a (zB S da)) : PW X (.BoolOp .And [a] pos) (zB S da) := pw_and1 ha
theorem zw_or1 (ha : PT X a (zB S da)) : PW X (.BoolOp .Or [a] pos) (zB S da) := pw_or1 ha
theorem zw_and (ha : PT X a (zB S da)) (hb : PW X (.BoolOp .And (b :: rest) pos) (zB S db)) : PW X (.BoolOp .And (a :: b :: rest) pos) (zB S (zAnd da db)) := pw_to (pw_and ha hb) fun σ H Q ⟨A, μ, H0, G, ρ, c, μ', en, W, hd, k⟩ => by
  obtain ⟨⟨d, μ1⟩, h1, hd⟩ := obind hd
  refine ⟨A, μ, H0, G, ρ, d, μ1, en, W, h1, fun A1 G1 H1 v x1 W1 r1 => ?_⟩
  obtain rfl : v = d := r1
  cases v with
  | true => exact ⟨A1, μ1, H0, G1, ρ, c, μ', en.up x1 W1, W1, by simpa using hd, fun A2 G2 H2 v x2 W2 r2 => k A2 G2 H2 v (x1.trans x2) W2 r2⟩
  | false =>
    obtain ⟨rfl, rfl⟩ : c = false ∧ μ' = μ1 := by simpa [eq_comm] using hd
    exact k A1 G1 H1 false x1 W1 rfl
theorem zw_or (ha : PT X a (zB S da)) (hb : PW X (.BoolOp .Or (b :: rest) pos) (zB S db)) : PW X (.BoolOp .Or (a :: b :: rest) pos) (zB S (zOr da db)) := pw_to (pw_or ha hb) fun σ H Q ⟨A, μ, H0, G, ρ, c, μ', en, W, hd, k⟩ => by
  obtain ⟨⟨d, μ1⟩, h1, hd⟩ := obind hd
  refine ⟨A, μ, H0, G, ρ, d, μ1, en, W, h1, fun A1 G1 H1 v x1 W1 r1 => ?_⟩
  obtain rfl : v = d := r1
  cases v with
  | false => exact ⟨A1, μ1, H0, G1, ρ, c, μ', en.up x1 W1, W1, by simpa using hd, fun A2 G2 H2 v x2 W2 r2 => k A2 G2 H2 v (x1.trans x2) W2 r2⟩
  | true =>
    obtain ⟨rfl, rfl⟩ : c = true ∧ μ' = μ1 := by simpa [eq_comm] using hd
    exact k A1 G1 H1 true x1 W1 rfl
end
def zIfE (c : SD Bool) (d e : SD D) : SD D := fun ρ μ => (c ρ μ).bind fun p => if p.1 then d ρ p.2 else e ρ p.2
theorem zn_ifExp {c a b : Expr} {dc : SD Bool} {da db : SD D} (hc : PT X c (zB S dc)) (ha : PE X a (zD S da)) (hb : PE X b (zD S db)) : PE X (.IfExp c a b pos) (zD S (zIfE dc da db)) := pe_to (pe_ifExp hc ha hb) fun σ H Q ⟨A, μ, H0, G, ρ, z, μ', en, W, hd, k⟩ => by
  obtain ⟨⟨d, μ1⟩, h1, hd⟩ := obind hd
  refine ⟨A, μ, H0, G, ρ, d, μ1, en, W, h1, fun A1 G1 H1 v x1 W1 r1 => ?_⟩
  obtain rfl : v = d := r1
  cases v with
  | true => exact ⟨A1, μ1, H0, G1, ρ, z, μ', en.up x1 W1, W1, by simpa using hd, fun A2 G2 H2 v x2 W2 r2 => k A2 G2 H2 v (x1.trans x2) W2 r2⟩
  | false => exact ⟨A1, μ1, H0, G1, ρ, z, μ', en.up x1 W1, W1, by simpa using hd, fun A2 G2 H2 v x2 W2 r2 => k A2 G2 H2 v (x1.trans x2) W2 r2⟩
/-! ### calls -/
/-- the promise of a def that computes f and may change cells -/
def SpS (S : CS) (f : List D → List Cell → Option (D × List Cell)) : Sp := fun vs H Q _ => ∃ A μ G ds d μ', Wd S A μ G H ∧ RpAll S.cls A G vs ds ∧ f ds μ = some (d, μ') ∧ ∀ A' G' H' v, Ex A G H A' G' H' → Wd S A' μ' G' H' → Rp S.cls A' G' v d → Q v H'
abbrev FnS := List D → List Cell → Option (D × List Cell)
def zCall (f : FnS) (das : SD (List D)) : SD D := fun ρ μ => (das ρ μ).bind fun p => f p.1 p.2
def zCallP (f : List D → Option D) (das : SD (List D)) : SD D := fun ρ μ => (das ρ μ).bind fun p => (f p.1).bind fun d => some (d, p.2)
section
variable {CX : CXT} {k : Nat} {f : Addr} {fd : FuncData} {ps : List Str} {E : XK} {x : Str} {p : Pos} {e : Expr} {es : List Expr} {das : SD (List D)}
theorem zn_call {g : FnS} (F : FnOk X.prog X.w X.K X.mg X.base CX k f fd ps (SpS S g)) (hr : Room k X.A) (hg : Gl X x) (hm : X.mg x = some (.ref f)) (hk : PySem.W.keepIn X.K (.ref f) = true) (hb : Binds X.K fd ps []) (hx : Passes CX X E)
    (ha : PA X (e :: es) (zA S das)) (hdb : (x == ("__debug__" : Str)) = false := by decide) (he : starEach (e :: es) X.env = (false, eval e X.env) :: starEach es X.env := by rfl) (hpl : (backTo pos (starEach es X.env)).any (·.1) = false := by rfl) :
    PE X (.Call (.Name x p) (e :: es) [] pos) (zD S (zCall g das)) :=
  pe_to (pe_call F hr hg hm hk hb .nil hx ha hdb he hpl) fun σ H Q ⟨A, μ, H0, G, ρ, d, μ', en, W, hd, k⟩ => by
    obtain ⟨⟨ds, μ1⟩, h1, hd⟩ := obind hd
    exact ⟨A, μ, H0, G, ρ, ds, μ1, en, W, h1, fun A1 G1 H1 vs x1 W1 r1 => ⟨A1, μ1, G1, ds, d, μ', W1, by rw [List.append_nil]; exact r1, hd, fun A' G' H' v x2 W2 r2 => k A' G' H' v (x1.trans x2) W2 r2⟩⟩
theorem zn_callP {g : List D → Option D} (F : FnOk X.prog X.w X.K X.mg X.base CX k f fd ps (SpD S.cls g)) (hr : Room k X.A) (hg : Gl X x) (hm : X.mg x = some (.ref f)) (hk : PySem.W.keepIn X.K (.ref f) = true) (hb : Binds X.K fd ps []) (hx : Passes CX X E)
    (ha : PA X (e :: es) (zA S das)) (hdb : (x == ("__debug__" : Str)) = false := by decide) (he : starEach (e :: es) X.env = (false, eval e X.env) :: starEach es X.env := by rfl) (hpl : (backTo pos (starEach es X.env)).any (·.1) = false := by rfl) :
    PE X (.Call (.Name x p) (e :: es) [] pos) (zD S (zCallP g das)) :=
  pe_to (pe_call F hr hg hm hk hb .nil hx ha hdb he hpl) fun σ H Q ⟨A, μ, H0, G, ρ, d, μ', en, W, hd, k⟩ => by
    obtain ⟨⟨ds, μ1⟩, h1, hd⟩ := obind hd
    obtain ⟨d', h2, hd⟩ := obind hd
    cases hd
    exact ⟨A, μ, H0, G, ρ, ds, _, en, W, h1, fun A1 G1 H1 vs x1 W1 r1 => ⟨A1, G1, ds, d, W1.cel, W1.same, by rw [List.append_nil]; exact r1, h2, fun G' H' v x2 r2 => k A1 G' H' v (x1.trans (.of x2)) (W1.ext x2) r2⟩⟩
theorem izN {r : List V → Hp → VK → Prop} {f : List D → Option D} (h : IsN S.cls r f) (das : SD (List D)) : ∀ σ H Q, zD S (zCallP f das) σ H Q → tCB r (zA S das) σ H Q := fun σ H Q ⟨A, μ, H0, G, ρ, d, μ', en, W, hd, k⟩ => by
  obtain ⟨⟨ds, μ1⟩, h1, hd⟩ := obind hd
  obtain ⟨d', h2, hd⟩ := obind hd
  cases hd
  exact ⟨A, μ, H0, G, ρ, ds, _, en, W, h1, fun A1 G1 H1 vs x1 W1 r1 => h A1 G1 H1 vs ds d Q W1.same r1 h2 fun G' H' v x2 r2 => k A1 G' H' v (x1.trans (.of x2)) (W1.ext x2) r2⟩
theorem zn_callB {id : String} {r : List V → Hp → VK → Prop} {f : List D → Option D} (h : IsN S.cls r f) (hc : CallR X (.builtin id) r) (hg : Gl X x) (hm : X.mg x = none) (hv : bootBuiltins x = some (.builtin id)) (ha : PA X (e :: es) (zA S das)) (hn : x ≠ "__name__" := by decide) (hdb : (x == ("__debug__" : Str)) = false := by decide)
    (he : starEach (e :: es) X.env = (false, eval e X.env) :: starEach es X.env := by rfl) (hpl : (backTo pos (starEach es X.env)).any (·.1) = false := by rfl) : PE X (.Call (.Name x p) (e :: es) [] pos) (zD S (zCallP f das)) := pe_to (pe_callB hc hg hm hv ha hn hdb he hpl) (izN h das)
theorem zn_callTy {T : String} {r : List V → Hp → VK → Prop} {f : List D → Option D} (h : IsN S.cls r f) (hc : CallR X (.type T) r) (hg : Gl X x) (hm : X.mg x = none) (hv : bootBuiltins x = some (.type T)) (ha : PA X (e :: es) (zA S das)) (hn : x ≠ "__name__" := by decide) (hdb : (x == ("__debug__" : Str)) = false := by decide)
    (he : starEach (e :: es) X.env = (false, eval e X.env) :: starEach es X.env := by rfl) (hpl : (backTo pos (starEach es X.env)).any (·.1) = false := by rfl) : PE X (.Call (.Name x p) (e :: es) [] pos) (zD S (zCallP f das)) := pe_to (pe_callTy hc hg hm hv ha hn hdb he hpl) (izN h das)
end
end
end DN

set_option maxHeartbeats 1000000
/-! cells: fields, methods, new objects, dicts -/
namespace DN
open PySem PySem.Spec PyProof.Rows L2 KG
/-! ### fields -/
def putD (f : Str) (d : D) : List (Str × D) → List (Str × D)
  | [] => [(f, d)]
  | (g, x) :: r => if g = f then (g, d) :: r else (g, x) :: putD f d r
section
variable {C : Addr} {A : List Addr} {G : Hp}
theorem RpFs.look {us : List (Str × V)} {fs : List (Str × D)} (h : RpFs C A G us fs) (f : Str) : (us.lookup f = none ∧ fs.lookup f = none) ∨ ∃ v d, us.lookup f = some v ∧ fs.lookup f = some d ∧ Rp C A G v d := by
  induction h with
  | nil => exact .inl ⟨rfl, rfl⟩
  | cons r _ ih =>
    rename_i g v d us fs _
    rw [List.lookup_cons, List.lookup_cons]
    cases e : f == g with
    | true => exact .inr ⟨v, d, rfl, rfl, r⟩
    | false => exact ih
theorem RpFs.putF {us : List (Str × V)} {fs : List (Str × D)} {f : Str} {v : V} {d : D} (h : RpFs C A G us fs) (r : Rp C A G v d) : RpFs C A G (L2.putF f v us) (putD f d fs) := by
  induction h with
  | nil => exact .cons r .nil
  | cons r1 r2 ih =>
    unfold L2.putF putD
    split
    · exact .cons r r2
    · exact .cons r1 ih
theorem RpFs.len {us : List (Str × V)} {fs : List (Str × D)} (h : RpFs C A G us fs) : us.length = fs.length := by
  induction h with
  | nil => rfl
  | cons _ _ ih => rw [List.length_cons, List.length_cons, ih]
end
/-- the object of class t that d is -/
def insAt (μ : List Cell) (t : Nat) : D → Option (Nat × List (Str × D))
  | .ref i => match μ[i]? with
    | some (.ins u fs) => if u == t then some (i, fs) else none
    | _ => none
  | _ => none
theorem insAt_ok {S : CS} {A : List Addr} {μ : List Cell} {G H : Hp} (W : Wd S A μ G H) {t i : Nat} {d : D} {fs : List (Str × D)} {x : V} (h : insAt μ t d = some (i, fs)) (r : Rp S.cls A G x d) :
    d = .ref i ∧ i < μ.length ∧ ∃ a dx us, x = .ref a ∧ A[i]? = some a ∧ H a = some (.ins (S.cl t) dx us) ∧ RpFs S.cls A G us fs := by
  unfold insAt at h
  split at h
  · split at h
    · rename_i j _ u gs e
      split at h
      · rename_i hu
        cases h
        have := beq_iff_eq.mp hu
        subst this
        cases r with
        | ref hi =>
          rename_i a
          obtain ⟨n, dx, us, h1, h2⟩ := W.cell _ a _ hi e
          exact ⟨rfl, (List.getElem?_eq_some_iff.mp e).1, a, dx, us, rfl, hi, h1, h2⟩
      · cases h
    · cases h
  · cases h
section
variable {X : Cx} {S : CS} {pos : Pos}
/-- o.f of a cell -/
def zFld (t : Nat) (f : Str) (d : SD D) : SD D := fun ρ μ => (d ρ μ).bind fun p => (insAt p.2 t p.1).bind fun q => (q.2.lookup f).bind fun v => some (v, p.2)
theorem zn_fld {e : Expr} {t : Nat} {f : Str} {d : SD D} (c : Cls X.K (S.cl t)) (n : NoAttr X.K (S.cl t) f) (he : PE X e (zD S d)) (hb : attributeBase e f X.env (eval e X.env) = eval e X.env := by rfl) : PE X (.Attribute e f pos) (zD S (zFld t f d)) :=
  pe_to (pe_fld he hb) fun σ H Q ⟨A, μ, H0, G, ρ, z, μ', en, W, hd, k⟩ => by
    obtain ⟨⟨a, μ1⟩, h1, hd⟩ := obind hd
    obtain ⟨⟨i, fs⟩, h2, hd⟩ := obind hd
    obtain ⟨v, h3, hd⟩ := obind hd
    cases hd
    refine ⟨A, μ, H0, G, ρ, a, _, en, W, h1, fun A1 G1 H1 x x1 W1 r1 => ?_⟩
    obtain ⟨_, _, b, dx, us, rfl, _, g1, g2⟩ := insAt_ok W1 h2 r1
    rcases g2.look f with ⟨_, l2⟩ | ⟨u, d', l1, l2, rr⟩
    · rw [h3] at l2; cases l2
    · rw [h3] at l2; cases l2
      exact ⟨b, _, dx, us, u, rfl, g1, c, n, l1, k A1 G1 H1 u x1 W1 rr⟩
/-- the fields of a Number -/
def fNumF (b : Bool) : D → Option D
  | .num t e => some (if b then t else e)
  | _ => none
theorem num_fs {C : Addr} {A : List Addr} {G : Hp} {x : V} {t e : D} (r : Rp C A G x (.num t e)) : ∃ a dx vt ve, x = .ref a ∧ G a = some (.ins C dx [("tower", vt), ("element", ve)]) ∧ Rp C A G vt t ∧ Rp C A G ve e := by
  cases r with
  | num e1 r1 r2 => exact ⟨_, _, _, _, rfl, e1, r1, r2⟩
theorem dn_tower {e : Expr} {C : Addr} {d : List Sl → Option D} (c : Cls X.K C) (n : NoAttr X.K C "tower") (he : PE X e (tD C d)) (hb : attributeBase e "tower" X.env (eval e X.env) = eval e X.env := by rfl) : PE X (.Attribute e "tower" pos) (tD C (d1 (fNumF true) d)) :=
  pe_to (pe_fld he hb) fun σ H Q ⟨A, H0, G, ρ, z, en, sm, hd, k⟩ => by
    obtain ⟨a, h1, hd⟩ := obind hd
    refine ⟨A, H0, G, ρ, a, en, sm, h1, fun G1 H1 x x1 r1 => ?_⟩
    unfold fNumF at hd
    split at hd
    · cases hd
      obtain ⟨b, dx, vt, ve, rfl, g, ra, rb⟩ := num_fs r1
      exact ⟨b, C, dx, _, vt, rfl, x1.s _ _ g, c, n, rfl, k G1 H1 vt x1 ra⟩
    · cases hd
theorem dn_element {e : Expr} {C : Addr} {d : List Sl → Option D} (c : Cls X.K C) (n : NoAttr X.K C "element") (he : PE X e (tD C d)) (hb : attributeBase e "element" X.env (eval e X.env) = eval e X.env := by rfl) : PE X (.Attribute e "element" pos) (tD C (d1 (fNumF false) d)) :=
  pe_to (pe_fld he hb) fun σ H Q ⟨A, H0, G, ρ, z, en, sm, hd, k⟩ => by
    obtain ⟨a, h1, hd⟩ := obind hd
    refine ⟨A, H0, G, ρ, a, en, sm, h1, fun G1 H1 x x1 r1 => ?_⟩
    unfold fNumF at hd
    split at hd
    · cases hd
      obtain ⟨b, dx, vt, ve, rfl, g, ra, rb⟩ := num_fs r1
      refine ⟨b, C, dx, _, ve, rfl, x1.s _ _ g, c, n, ?_, k G1 H1 ve x1 rb⟩
      rfl
    · cases hd
/-! ### methods -/
section
variable {CX : CXT} {k : Nat} {f : Addr} {fd : FuncData} {ps : List Str} {E : XK} {m : Str} {apos : Pos} {o e : Expr} {es : List Expr} {pl : Sem Bool}
def zMeth (t : Nat) (m : Str) (g : FnS) (d : SD D) (das : SD (List D)) : SD D := fun ρ μ => (d ρ μ).bind fun p => (insAt p.2 t p.1).bind fun q => if (q.2.lookup m).isNone then (das ρ p.2).bind fun r => g (p.1 :: r.1) r.2 else none
theorem izMeth {t : Nat} {g : FnS} {d : SD D} {das : SD (List D)} : ∀ σ H Q, zD S (zMeth t m g d das) σ H Q → tMeth (S.cl t) m (SpS S g) [] E (zD S d) (zA S das) σ H Q := fun σ H Q ⟨A, μ, H0, G, ρ, z, μ', en, W, hd, k⟩ => by
  obtain ⟨⟨a, μ1⟩, h1, hd⟩ := obind hd
  obtain ⟨⟨i, fs⟩, h2, hd⟩ := obind hd
  split at hd
  · rename_i hn
    obtain ⟨⟨ds, μ2⟩, h3, hd⟩ := obind hd
    refine ⟨A, μ, H0, G, ρ, a, _, en, W, h1, fun A1 G1 H1 x x1 W1 r1 => ?_⟩
    obtain ⟨_, _, b, dx, us, rfl, _, g1, g2⟩ := insAt_ok W1 h2 r1
    refine ⟨b, dx, us, rfl, g1, ?_, A1, μ1, H0, G1, ρ, ds, μ2, en.up x1 W1, W1, h3, fun A2 G2 H2 vs x2 W2 r2 => ?_⟩
    · rcases g2.look m with ⟨l1, _⟩ | ⟨u, d', l1, l2, _⟩
      · exact l1
      · simp only at hn; rw [l2] at hn; cases hn
    · exact ⟨A2, μ2, G2, a :: ds, z, μ', W2, by rw [List.append_nil]; exact .cons (r1.up x2.pre x2.g) r2, hd, fun A' G' H' v x3 W3 r3 => k A' G' H' v ((x1.trans x2).trans x3) W3 r3⟩
  · cases hd
theorem zn_meth {t : Nat} {g : FnS} {d : SD D} {das : SD (List D)} (he : PE X o (zD S d)) (c : Cls X.K (S.cl t)) (hm : Meth X.K (S.cl t) m f) (F : FnOk X.prog X.w X.K X.mg X.base CX k f fd ps (SpS S g)) (hr : Room k X.A) (hb : Binds X.K fd ps []) (hx : Passes CX X E) (ha : PA X (e :: es) (zA S das))
    (hst : starEach (e :: es) X.env = (false, eval e X.env) :: starEach es X.env := by rfl) (hpl : (backTo pos (starEach es X.env)).any (·.1) = false := by rfl)
    (ht : eval (.Call (.Attribute o m apos) (e :: es) [] pos) X.env = (do
      let ov ← eval o X.env
      standAt apos.atName
      let (f, first) ← holding [ov] (getMethod ov m pl)
      callWith pos f first (backTo pos (starEach (e :: es) X.env)) (backToKw pos (keywordEach [] X.env))) := by rfl) :
    PE X (.Call (.Attribute o m apos) (e :: es) [] pos) (zD S (zMeth t m g d das)) := pe_to (pe_meth he c hm F hr hb .nil hx ha hst hpl ht) izMeth
theorem zn_meth0 {t : Nat} {g : FnS} {d : SD D} (he : PE X o (zD S d)) (c : Cls X.K (S.cl t)) (hm : Meth X.K (S.cl t) m f) (F : FnOk X.prog X.w X.K X.mg X.base CX k f fd ps (SpS S g)) (hr : Room k X.A) (hb : Binds X.K fd ps []) (hx : Passes CX X E)
    (ht : eval (.Call (.Attribute o m apos) [] [] pos) X.env = (do
      let ov ← eval o X.env
      standAt apos.atName
      let (f, first) ← holding [ov] (getMethod ov m pl)
      callWith pos f first (backTo pos (starEach [] X.env)) (backToKw pos (keywordEach [] X.env))) := by rfl) :
    PE X (.Call (.Attribute o m apos) [] [] pos) (zD S (zMeth t m g d y0)) := pe_to (pe_meth0 he c hm F hr hb .nil hx ht) fun σ H Q h => by
  obtain ⟨A, μ, H0, G, ρ, z, μ', en, W, h1, kk⟩ := izMeth (E := E) σ H Q h
  refine ⟨A, μ, H0, G, ρ, z, μ', en, W, h1, fun A1 G1 H1 x x1 W1 r1 => ?_⟩
  obtain ⟨a, dx, fs, e1, e2, e3, B, ν, I0, J, τ, l, ν', en2, W2, hl, k2⟩ := kk A1 G1 H1 x x1 W1 r1
  cases hl
  exact ⟨a, dx, fs, e1, e2, e3, k2 B J H1 [] .refl W2 .nil⟩
/-- methods of a Number that compute g -/
def dMethN (g : List D → Option D) (d : List Sl → Option D) (das : List Sl → Option (List D)) : List Sl → Option D := fun ρ => (d ρ).bind fun a => match a with
  | .num t e => (das ρ).bind fun ds => g (.num t e :: ds)
  | _ => none
theorem idMeth {C : Addr} {g : List D → Option D} {d : List Sl → Option D} {das : List Sl → Option (List D)} (hm1 : ((m == ("tower" : Str)) = false)) (hm2 : ((m == ("element" : Str)) = false)) : ∀ σ H Q, tD C (dMethN g d das) σ H Q → tMeth C m (SpD C g) [] E (tD C d) (tA C das) σ H Q := fun σ H Q ⟨A, H0, G, ρ, z, en, sm, hd, k⟩ => by
  obtain ⟨a, h1, hd⟩ := obind hd
  refine ⟨A, H0, G, ρ, a, en, sm, h1, fun G1 H1 x x1 r1 => ?_⟩
  split at hd
  · obtain ⟨ds, h2, hd⟩ := obind hd
    obtain ⟨b, dx, vt, ve, rfl, g1, ra, rb⟩ := num_fs r1
    refine ⟨b, dx, _, rfl, x1.s _ _ g1, ?_, A, H0, G1, ρ, ds, en.ext x1, x1.s, h2, fun G2 H2 vs x2 r2 => ?_⟩
    · rw [List.lookup_cons, hm1, List.lookup_cons, hm2]; rfl
    · exact ⟨A, G2, _, z, ((en.ext x1).ext x2).cel, x2.s, by rw [List.append_nil]; exact .cons (r1.mono x2.g) r2, hd, fun G' H' v x3 r3 => k G' H' v ((x1.trans x2).trans x3) r3⟩
  · cases hd
theorem dn_methN {C : Addr} {g : List D → Option D} {d : List Sl → Option D} {das : List Sl → Option (List D)} (he : PE X o (tD C d)) (c : Cls X.K C) (hm : Meth X.K C m f) (F : FnOk X.prog X.w X.K X.mg X.base CX k f fd ps (SpD C g)) (hr : Room k X.A) (hb : Binds X.K fd ps []) (hx : Passes CX X E) (ha : PA X (e :: es) (tA C das))
    (hst : starEach (e :: es) X.env = (false, eval e X.env) :: starEach es X.env := by rfl) (hpl : (backTo pos (starEach es X.env)).any (·.1) = false := by rfl) (hm1 : ((m == ("tower" : Str)) = false) := by decide) (hm2 : ((m == ("element" : Str)) = false) := by decide)
    (ht : eval (.Call (.Attribute o m apos) (e :: es) [] pos) X.env = (do
      let ov ← eval o X.env
      standAt apos.atName
      let (f, first) ← holding [ov] (getMethod ov m pl)
      callWith pos f first (backTo pos (starEach (e :: es) X.env)) (backToKw pos (keywordEach [] X.env))) := by rfl) :
    PE X (.Call (.Attribute o m apos) (e :: es) [] pos) (tD C (dMethN g d das)) := pe_to (pe_meth he c hm F hr hb .nil hx ha hst hpl ht) (idMeth hm1 hm2)
theorem dn_methN0 {C : Addr} {g : List D → Option D} {d : List Sl → Option D} (he : PE X o (tD C d)) (c : Cls X.K C) (hm : Meth X.K C m f) (F : FnOk X.prog X.w X.K X.mg X.base CX k f fd ps (SpD C g)) (hr : Room k X.A) (hb : Binds X.K fd ps []) (hx : Passes CX X E) (hm1 : ((m == ("tower" : Str)) = false) := by decide) (hm2 : ((m == ("element" : Str)) = false) := by decide)
    (ht : eval (.Call (.Attribute o m apos) [] [] pos) X.env = (do
      let ov ← eval o X.env
      standAt apos.atName
      let (f, first) ← holding [ov] (getMethod ov m pl)
      callWith pos f first (backTo pos (starEach [] X.env)) (backToKw pos (keywordEach [] X.env))) := by rfl) :
    PE X (.Call (.Attribute o m apos) [] [] pos) (tD C (dMethN g d a0)) := pe_to (pe_meth0 he c hm F hr hb .nil hx ht) fun σ H Q h => by
  obtain ⟨A, H0, G, ρ, z, en, sm, h1, kk⟩ := idMeth (E := E) hm1 hm2 σ H Q h
  refine ⟨A, H0, G, ρ, z, en, sm, h1, fun G1 H1 x x1 r1 => ?_⟩
  obtain ⟨a, dx, fs, e1, e2, e3, B, I0, J, τ, l, en2, sm2, hl, k2⟩ := kk G1 H1 x x1 r1
  cases hl
  exact ⟨a, dx, fs, e1, e2, e3, k2 J H1 [] (.refl sm2) .nil⟩
end
/-! ### new cells -/
theorem Wd.add {A : List Addr} {μ : List Cell} {G H H' : Hp} {x : Addr} {c : Cell} (W : Wd S A μ G H) (hx : H x = none) (hH : ∀ b o, H b = some o → H' b = some o) (ok : CellOk S (A ++ [x]) G H' x c) : Wd S (A ++ [x]) (μ ++ [c]) G H' ∧ Ex A G H (A ++ [x]) G H' := by
  have gx : G x = none := none_of W.same hx
  have nx : x ∉ A := fun z => by
    obtain ⟨⟨o, e⟩, _⟩ := W.cel x z
    rw [hx] at e; cases e
  refine ⟨⟨W.same.trans hH, by rw [List.length_append, List.length_append, W.len]; rfl, ?_, fun i a d h1 h2 => ?_⟩, ⟨[x], rfl, fun b hb => by rw [List.mem_singleton.mp hb]; exact hx⟩, fun _ _ h => h, fun b o _ h => hH b o h, fun _ _ _ h => h, fun b o h => ⟨o, hH b o h⟩⟩
  · refine List.nodup_append.mpr ⟨W.nd, by simp, fun a ha b hb e => ?_⟩
    rw [List.mem_singleton.mp hb] at e
    subst e
    exact nx ha
  · by_cases hi : i < A.length
    · rw [List.getElem?_append_left hi] at h1
      rw [List.getElem?_append_left (by rw [← W.len]; exact hi)] at h2
      obtain ⟨n, ok'⟩ := W.cell i a d h1 h2
      obtain ⟨o, e⟩ := ok'.some
      exact ⟨n, ok'.up ⟨[x], rfl⟩ (fun _ _ h => h) ((hH _ _ e).trans e.symm)⟩
    · rw [List.getElem?_append_right (by omega)] at h1
      rw [List.getElem?_append_right (by rw [← W.len]; omega), ← W.len] at h2
      have : i - A.length = 0 := by
        have := (List.getElem?_eq_some_iff.mp h1).1
        rw [List.length_singleton] at this
        omega
      rw [this] at h1 h2
      cases h1
      cases h2
      exact ⟨gx, ok⟩
def zDict : SD D := fun _ μ => some (.ref μ.length, μ ++ [.dic []])
theorem zn_dict (hP : X.prog = S.P) (hw : X.w = S.w) : PE X (.Dict [] [] pos) (zD S zDict) :=
  pe_to pe_dnewX fun σ H Q ⟨A, μ, H0, G, ρ, d, μ', en, W, hd, k⟩ => fun p np => by
    cases hd
    obtain ⟨W2, x2⟩ := W.add (H' := upd H p (dicO X.prog X.w p [])) (c := .dic []) np (same_new np _) ⟨[], by rw [hP, hw]; exact upd_same, .nil⟩
    refine k _ G _ _ x2 W2 (.ref ?_)
    rw [← W.len, List.getElem?_append_right (Nat.le_refl _), Nat.sub_self]
    rfl
section
variable {CX : CXT} {k : Nat} {f : Addr} {fd : FuncData} {ps : List Str} {E : XK} {x : Str} {p : Pos} {e : Expr} {es : List Expr}
def zMake (t : Nat) (g : FnS) (das : SD (List D)) : SD D := fun ρ μ => (das ρ μ).bind fun p => (g (.ref p.2.length :: p.1) (p.2 ++ [.ins t []])).bind fun r => match r.1 with
  | .non => some (.ref p.2.length, r.2)
  | _ => none
theorem make_ok {t : Nat} {g : FnS} {A : List Addr} {μ μ' : List Cell} {G H : Hp} {ds : List D} {vs : List V} {Q : VK} {z : D} (W : Wd S A μ G H) (r : RpAll S.cls A G vs ds) (hd : ((g (.ref μ.length :: ds) (μ ++ [.ins t []])).bind fun r => match r.1 with
    | .non => some (D.ref μ.length, r.2)
    | _ => none) = some (z, μ')) (k : ∀ A' G' H' v, Ex A G H A' G' H' → Wd S A' μ' G' H' → Rp S.cls A' G' v z → Q v H') :
    ∀ x dx, H x = none → H dx = none → dx ≠ x → SpS S g (.ref x :: (vs ++ [])) (upd (upd H dx (.own x)) x (.ins (S.cl t) dx [])) (fun v H2 => v = .non ∧ Q (.ref x) H2) E := fun x dx hx hdx ne => by
  obtain ⟨⟨d, μ2⟩, h1, hd⟩ := obind hd
  simp only at hd
  split at hd
  · cases hd
    have hH : ∀ b o, H b = some o → (upd (upd H dx (.own x)) x (.ins (S.cl t) dx [])) b = some o := fun b o h => by
      rw [upd_ne (ne_of_none h hx), upd_ne (ne_of_none h hdx)]; exact h
    obtain ⟨W2, x2⟩ := W.add (c := .ins t []) hx hH ⟨dx, [], upd_same, .nil⟩
    have gi : (A ++ [x])[μ.length]? = some x := by
      rw [← W.len, List.getElem?_append_right (Nat.le_refl _), Nat.sub_self]; rfl
    refine ⟨_, _, G, _, _, _, W2, .cons (.ref gi) (by rw [List.append_nil]; exact r.up x2.pre x2.g), h1, fun A' G' H' v x3 W3 r3 => ?_⟩
    cases r3
    obtain ⟨nw, e1⟩ := x3.pre
    exact ⟨rfl, k A' G' H' _ (x2.trans x3) W3 (.ref (get_pre e1 gi))⟩
  · cases hd
theorem zn_make {t : Nat} {g : FnS} {das : SD (List D)} (M : Mk X.K (S.cl t) f) (F : FnOk X.prog X.w X.K X.mg X.base CX k f fd ps (SpS S g)) (hr : Room (k + 1) X.A) (hg : Gl X x) (hm : X.mg x = some (.ref (S.cl t))) (hb : Binds X.K fd ps []) (hx : Passes CX X E)
    (ha : PA X (e :: es) (zA S das)) (hdb : (x == ("__debug__" : Str)) = false := by decide) (he : starEach (e :: es) X.env = (false, eval e X.env) :: starEach es X.env := by rfl) (hpl : (backTo pos (starEach es X.env)).any (·.1) = false := by rfl) :
    PE X (.Call (.Name x p) (e :: es) [] pos) (zD S (zMake t g das)) := pe_to (pe_make M F hr hg hm hb .nil hx ha hdb he hpl) fun σ H Q ⟨A, μ, H0, G, ρ, d, μ', en, W, hd, k⟩ => by
  obtain ⟨⟨ds, μ1⟩, h1, hd⟩ := obind hd
  exact ⟨A, μ, H0, G, ρ, ds, μ1, en, W, h1, fun A1 G1 H1 vs x1 W1 r1 => make_ok W1 r1 hd fun A' G' H' v x2 W2 r2 => k A' G' H' v (x1.trans x2) W2 r2⟩
theorem zn_make0 {t : Nat} {g : FnS} (M : Mk X.K (S.cl t) f) (F : FnOk X.prog X.w X.K X.mg X.base CX k f fd ps (SpS S g)) (hr : Room (k + 1) X.A) (hg : Gl X x) (hm : X.mg x = some (.ref (S.cl t))) (hb : Binds X.K fd ps []) (hx : Passes CX X E)
    (hdb : (x == ("__debug__" : Str)) = false := by decide) : PE X (.Call (.Name x p) [] [] pos) (zD S (zMake t g y0)) := pe_to (pe_make0 M F hr hg hm hb .nil hx hdb) fun σ H Q ⟨A, μ, H0, G, ρ, d, μ', en, W, hd, k⟩ => by
  obtain ⟨⟨ds, μ1⟩, h1, hd⟩ := obind hd
  cases h1
  exact make_ok W .nil hd k
end
/-! ### dicts -/
def dicAt (μ : List Cell) : D → Option (Nat × List (D × D))
  | .ref i => match μ[i]? with
    | some (.dic kvs) => some (i, kvs)
    | _ => none
  | _ => none
theorem dicAt_ok {A : List Addr} {μ : List Cell} {G H : Hp} (W : Wd S A μ G H) {i : Nat} {d : D} {kvs : List (D × D)} {x : V} (h : dicAt μ d = some (i, kvs)) (r : Rp S.cls A G x d) :
    d = .ref i ∧ i < μ.length ∧ ∃ a xs, x = .ref a ∧ A[i]? = some a ∧ H a = some (dicO S.P S.w a xs) ∧ RpKs S.cls A G xs kvs := by
  unfold dicAt at h
  split at h
  · split at h
    · rename_i j _ gs e
      cases h
      cases r with
      | ref hi =>
        rename_i a
        obtain ⟨n, xs, h1, h2⟩ := W.cell _ a _ hi e
        exact ⟨rfl, (List.getElem?_eq_some_iff.mp e).1, a, xs, rfl, hi, h1, h2⟩
    · cases h
  · cases h
def nkIs (k : NestedKey) (d : D) : Bool := match nk d with
  | some k' => decide (k' = k)
  | none => false
def getK (kvs : List (D × D)) (k : NestedKey) : Option D := (kvs.find? fun p => nkIs k p.1).map (·.2)
def putK (kvs : List (D × D)) (k : NestedKey) (kd v : D) : List (D × D) := if (getK kvs k).isSome then kvs.map fun p => if nkIs k p.1 then (p.1, v) else p else kvs ++ [(kd, v)]
theorem RpKs.keys {C : Addr} {A : List Addr} {G H : Hp} (sm : Same G H) {xs : DXs} {kvs : List (D × D)} (h : RpKs C A G xs kvs) : DKs H xs := by
  induction h with
  | nil => intro x hx; cases hx
  | cons r1 k d r2 _ ih =>
    intro x hx
    rcases List.mem_cons.mp hx with rfl | hx
    · exact ⟨r1.nk sm k, d⟩
    · exact ih x hx
theorem RpKs.at {C : Addr} {A : List Addr} {G : Hp} {xs : DXs} {kvs : List (D × D)} (h : RpKs C A G xs kvs) (k : NestedKey) : (atX xs k = none ∧ getK kvs k = none) ∨ ∃ v d, atX xs k = some v ∧ getK kvs k = some d ∧ Rp C A G v d := by
  induction h with
  | nil => exact .inl ⟨rfl, rfl⟩
  | cons r1 hk d r2 _ ih =>
    rename_i k0 a v kd vd xs kvs _
    unfold atX getK at ih ⊢
    rw [List.find?_cons, List.find?_cons]
    have e : nkIs k kd = decide (k0 = k) := by unfold nkIs; rw [hk]
    rw [e]
    by_cases z : k0 = k
    · rw [decide_eq_true z]; exact .inr ⟨v, vd, rfl, rfl, r2⟩
    · rw [decide_eq_false z]; exact ih
theorem RpKs.put {C : Addr} {A : List Addr} {G : Hp} {xs : DXs} {kvs : List (D × D)} (h : RpKs C A G xs kvs) {k : NestedKey} {a : Addr} {v : V} {kd vd : D} (rk : Rp C A G (.ref a) kd) (hk : nk kd = some k) (kdp : k.depth ≤ 8) (rv : Rp C A G v vd) : RpKs C A G (storedX xs k a v) (putK kvs k kd vd) := by
  have mp : ∀ {xs : DXs} {kvs : List (D × D)}, RpKs C A G xs kvs → RpKs C A G (xs.map (putX k v)) (kvs.map fun p => if nkIs k p.1 then (p.1, vd) else p) := by
    intro xs kvs h
    induction h with
    | nil => exact .nil
    | cons r1 hk1 d r2 _ ih =>
      rename_i k0 a0 v0 kd0 vd0 xs kvs _
      have e : nkIs k kd0 = decide (k0 = k) := by unfold nkIs; rw [hk1]
      rw [List.map_cons, List.map_cons]
      unfold putX
      by_cases z : k0 = k
      · rw [if_pos z, e, decide_eq_true z, if_pos rfl]; exact .cons r1 hk1 d rv ih
      · rw [if_neg z, e, decide_eq_false z, if_neg Bool.false_ne_true]; exact .cons r1 hk1 d r2 ih
  have ap : ∀ {xs : DXs} {kvs : List (D × D)}, RpKs C A G xs kvs → RpKs C A G (xs ++ [(k, a, v)]) (kvs ++ [(kd, vd)]) := by
    intro xs kvs h
    induction h with
    | nil => exact .cons rk hk kdp rv .nil
    | cons r1 hk1 d r2 _ ih => exact .cons r1 hk1 d r2 ih
  unfold storedX putK
  rcases h.at k with ⟨h1, h2⟩ | ⟨v', d', h1, h2, _⟩
  · rw [h1, h2]; exact ap h
  · rw [h1, h2]; exact mp h
theorem RpKs.len {C : Addr} {A : List Addr} {G : Hp} {xs : DXs} {kvs : List (D × D)} (h : RpKs C A G xs kvs) : xs.length = kvs.length := by
  induction h with
  | nil => rfl
  | cons _ _ _ _ _ ih => rw [List.length_cons, List.length_cons, ih]
def isTup : D → Bool
  | .tup _ => true
  | _ => false
def keyOf (d : D) : Option NestedKey := if isTup d then (nk d).bind fun k => if decide (k.depth ≤ 8) then some k else none else none
theorem keyOf_ok {C : Addr} {A : List Addr} {G : Hp} {d : D} {k : NestedKey} {x : V} (h : keyOf d = some k) (r : Rp C A G x d) : nk d = some k ∧ k.depth ≤ 8 ∧ ∃ a, x = .ref a := by
  unfold keyOf at h
  split at h
  · rename_i ht
    obtain ⟨k', h1, h⟩ := obind h
    obtain ⟨h2, rfl⟩ := oif h
    refine ⟨h1, of_decide_eq_true h2, ?_⟩
    cases d <;> simp [isTup] at ht
    cases r; exact ⟨_, rfl⟩
  · cases h
def zIn (neg : Bool) (dk dd : SD D) : SD D := fun ρ μ => (dk ρ μ).bind fun p => (dd ρ p.2).bind fun q => (keyOf p.1).bind fun k => (dicAt q.2 q.1).bind fun c => some (.bl (neg != (getK c.2 k).isSome), q.2)
theorem iIn {dk dd : SD D} (hP : X.prog = S.P) (hw : X.w = S.w) : ∀ σ H Q, zD S (zIn false dk dd) σ H Q → tOp (rInX X.prog X.w) (zD S dk) (zD S dd) σ H Q := fun σ H Q ⟨A, μ, H0, G, ρ, d, μ', en, W, hd, k⟩ => by
  obtain ⟨⟨a, μ1⟩, h1, hd⟩ := obind hd
  obtain ⟨⟨b, μ2⟩, h2, hd⟩ := obind hd
  obtain ⟨ky, h3, hd⟩ := obind hd
  obtain ⟨⟨i, kvs⟩, h4, hd⟩ := obind hd
  cases hd
  refine ⟨A, μ, H0, G, ρ, a, μ1, en, W, h1, fun A1 G1 H1 x x1 W1 r1 => ⟨A1, μ1, H0, G1, ρ, b, _, en.up x1 W1, W1, h2, fun A2 G2 H2 y x2 W2 r2 => ?_⟩⟩
  have r1' := r1.up x2.pre x2.g
  obtain ⟨k1, k2, ad, rfl⟩ := keyOf_ok h3 r1'
  obtain ⟨_, _, c, xs, rfl, _, g1, g2⟩ := dicAt_ok W2 h4 r2
  refine ⟨ad, c, xs, ky, rfl, rfl, by rw [hP, hw]; exact g1, g2.keys W2.same, r1'.nk W2.same k1, k2, ?_⟩
  refine k A2 G2 H2 _ (x1.trans x2) W2 ?_
  rcases g2.at ky with ⟨l1, l2⟩ | ⟨v', d', l1, l2, _⟩
  · simp only [l2]; rw [l1]; exact .bl _
  · simp only [l2]; rw [l1]; exact .bl _
theorem iNotIn {dk dd : SD D} (hP : X.prog = S.P) (hw : X.w = S.w) : ∀ σ H Q, zD S (zIn true dk dd) σ H Q → tOp (fun x y H Q => ∃ a d xs k, x = .ref a ∧ y = .ref d ∧ H d = some (dicO X.prog X.w d xs) ∧ DKs H xs ∧ NkV H k (.ref a) ∧ k.depth ≤ 8 ∧ Q (.bl (!(atX xs k).isSome)) H) (zD S dk) (zD S dd) σ H Q := fun σ H Q ⟨A, μ, H0, G, ρ, d, μ', en, W, hd, k⟩ => by
  obtain ⟨⟨a, μ1⟩, h1, hd⟩ := obind hd
  obtain ⟨⟨b, μ2⟩, h2, hd⟩ := obind hd
  obtain ⟨ky, h3, hd⟩ := obind hd
  obtain ⟨⟨i, kvs⟩, h4, hd⟩ := obind hd
  cases hd
  refine ⟨A, μ, H0, G, ρ, a, μ1, en, W, h1, fun A1 G1 H1 x x1 W1 r1 => ⟨A1, μ1, H0, G1, ρ, b, _, en.up x1 W1, W1, h2, fun A2 G2 H2 y x2 W2 r2 => ?_⟩⟩
  have r1' := r1.up x2.pre x2.g
  obtain ⟨k1, k2, ad, rfl⟩ := keyOf_ok h3 r1'
  obtain ⟨_, _, c, xs, rfl, _, g1, g2⟩ := dicAt_ok W2 h4 r2
  refine ⟨ad, c, xs, ky, rfl, rfl, by rw [hP, hw]; exact g1, g2.keys W2.same, r1'.nk W2.same k1, k2, ?_⟩
  refine k A2 G2 H2 _ (x1.trans x2) W2 ?_
  rcases g2.at ky with ⟨l1, l2⟩ | ⟨v', d', l1, l2, _⟩
  · simp only [l2]; rw [l1]; exact .bl _
  · simp only [l2]; rw [l1]; exact .bl _
section
variable {a b : Expr} {da db : SD D}
theorem zn_in (hP : X.prog = S.P) (hw : X.w = S.w) (hu : X.A.units + 64 < cLine) (ha : PE X a (zD S da)) (hb : PE X b (zD S db)) (hm : behindInMarks .In b = false := by rfl) : PE X (.Compare a [.In] [b] pos) (zD S (zIn false da db)) := pe_to (pe_cmpR (op_inX hu) ha hb hm) (iIn hP hw)
theorem zt_in (hP : X.prog = S.P) (hw : X.w = S.w) (hu : X.A.units + 64 < cLine) (ha : PE X a (zD S da)) (hb : PE X b (zD S db)) (hm : behindInMarks .In b = false := by rfl) : PT X (.Compare a [.In] [b] pos) (zB S (zAsB (zIn false da db))) := pt_to (pt_cmpR (op_inX hu) ha hb hm) (ztest_of (iIn hP hw))
theorem zt_notin (hP : X.prog = S.P) (hw : X.w = S.w) (hu : X.A.units + 64 < cLine) (ha : PE X a (zD S da)) (hb : PE X b (zD S db)) (hm : behindInMarks .NotIn b = false := by rfl) : PT X (.Compare a [.NotIn] [b] pos) (zB S (zAsB (zIn true da db))) := pt_to (pt_cmpR (op_notInX hu) ha hb hm) (ztest_of (iNotIn hP hw))
/-- d[k] -/
def zIxK (dd dk : SD D) : SD D := fun ρ μ => (dd ρ μ).bind fun p => (dk ρ p.2).bind fun q => (keyOf q.1).bind fun k => (dicAt q.2 p.1).bind fun c => (getK c.2 k).bind fun v => some (v, q.2)
theorem zn_ixK (hP : X.prog = S.P) (hw : X.w = S.w) (hu : X.A.units + 64 < cLine) (ha : PE X a (zD S da)) (hb : PE X b (zD S db)) (hs : PlainIx b) : PE X (.Subscript a b pos) (zD S (zIxK da db)) := pe_to (pe_ix (ix_X hu) ha hb hs) fun σ H Q ⟨A, μ, H0, G, ρ, d, μ', en, W, hd, k⟩ => by
  obtain ⟨⟨a, μ1⟩, h1, hd⟩ := obind hd
  obtain ⟨⟨b, μ2⟩, h2, hd⟩ := obind hd
  obtain ⟨ky, h3, hd⟩ := obind hd
  obtain ⟨⟨i, kvs⟩, h4, hd⟩ := obind hd
  obtain ⟨vd, h5, hd⟩ := obind hd
  cases hd
  refine ⟨A, μ, H0, G, ρ, a, μ1, en, W, h1, fun A1 G1 H1 x x1 W1 r1 => ⟨A1, μ1, H0, G1, ρ, b, _, en.up x1 W1, W1, h2, fun A2 G2 H2 y x2 W2 r2 => ?_⟩⟩
  have r1' := r1.up x2.pre x2.g
  obtain ⟨k1, k2, ad, rfl⟩ := keyOf_ok h3 r2
  obtain ⟨_, _, c, xs, rfl, _, g1, g2⟩ := dicAt_ok W2 h4 r1'
  rcases g2.at ky with ⟨l1, l2⟩ | ⟨v', d', l1, l2, rr⟩
  · rw [h5] at l2; cases l2
  · rw [h5] at l2; cases l2
    exact ⟨ad, c, xs, ky, v', rfl, rfl, by rw [hP, hw]; exact g1, g2.keys W2.same, r2.nk W2.same k1, k2, l1, k A2 G2 H2 v' (x1.trans x2) W2 rr⟩
end
end
end DN

set_option maxHeartbeats 1000000
/-! statements that change cells -/
namespace DN
open PySem PySem.Spec PyProof.Rows L2 KG
abbrev ZS := List Sl → List Cell → Option (Out × List Cell)
def FinZ (S : CS) (A0 : List Addr) (G0 H0 : Hp) (As : List Addr) (Gs : Hp) (E : Ends) (μ' : List Cell) : Out → Prop
  | .nx ρ => ∀ A G H σ, (∃ nw, A = As ++ nw) → Same Gs G → Ex A0 G0 H0 A G H → En S.cls A H0 G H σ ρ → Wd S A μ' G H → E.nx σ H
  | .rt d => ∀ A G H v, Ex A0 G0 H0 A G H → Wd S A μ' G H → Rp S.cls A G v d → E.rt v H
  | .bk ρ => ∀ A G H σ, (∃ nw, A = As ++ nw) → Same Gs G → Ex A0 G0 H0 A G H → En S.cls A H0 G H σ ρ → Wd S A μ' G H → E.bk σ H
  | .ct ρ => ∀ A G H σ, (∃ nw, A = As ++ nw) → Same Gs G → Ex A0 G0 H0 A G H → En S.cls A H0 G H σ ρ → Wd S A μ' G H → E.ct σ H
theorem pre_tr {A B C : List Addr} (h : ∃ nw, B = A ++ nw) (k : ∃ nw, C = B ++ nw) : ∃ nw, C = A ++ nw := by
  obtain ⟨n, rfl⟩ := h
  obtain ⟨m, rfl⟩ := k
  exact ⟨n ++ m, by rw [List.append_assoc]⟩
theorem pre_rf {A : List Addr} : ∃ nw, A = A ++ nw := ⟨[], by simp⟩
theorem FinZ.mono {S : CS} {A0 : List Addr} {G0 H0 : Hp} {As At : List Addr} {Gs Gt : Hp} {E : Ends} {μ' : List Cell} (p : ∃ nw, At = As ++ nw) (s : Same Gs Gt) : ∀ {o : Out}, FinZ S A0 G0 H0 As Gs E μ' o → FinZ S A0 G0 H0 At Gt E μ' o
  | .nx _, h => fun A G H σ p2 s2 => h A G H σ (pre_tr p p2) (s.trans s2)
  | .rt _, h => h
  | .bk _, h => fun A G H σ p2 s2 => h A G H σ (pre_tr p p2) (s.trans s2)
  | .ct _, h => fun A G H σ p2 s2 => h A G H σ (pre_tr p p2) (s.trans s2)
def tZ (S : CS) (den : ZS) : TS := fun E σ H => ∃ A0 G0 H0 A μ G ρ o μ', Ex A0 G0 H0 A G H ∧ En S.cls A H0 G H σ ρ ∧ Wd S A μ G H ∧ den ρ μ = some (o, μ') ∧ FinZ S A0 G0 H0 A G E μ' o
/-! what only reads cells' addresses, lifted -/
open Classical in
noncomputable def hid (σ : L2.St) (ρ : List Sl) (H : Hp) : Hp := fun a => if ∃ (i : Nat) (ds : List D), ρ[i]? = some (Sl.own ds) ∧ σ[i]? = some (some (V.ref a)) then none else H a
theorem hid_of {σ : L2.St} {ρ : List Sl} {H : Hp} {a : Addr} (h : ¬ ∃ (i : Nat) (ds : List D), ρ[i]? = some (Sl.own ds) ∧ σ[i]? = some (some (V.ref a))) : hid σ ρ H a = H a := by unfold hid; exact if_neg h
theorem hid_no {σ : L2.St} {ρ : List Sl} {H : Hp} {a : Addr} (h : ∃ (i : Nat) (ds : List D), ρ[i]? = some (Sl.own ds) ∧ σ[i]? = some (some (V.ref a))) : hid σ ρ H a = none := by unfold hid; exact if_pos h
theorem hid_le {σ : L2.St} {ρ : List Sl} {H : Hp} {a : Addr} {o : HO} (h : hid σ ρ H a = some o) : H a = some o := by
  by_cases q : ∃ (i : Nat) (ds : List D), ρ[i]? = some (Sl.own ds) ∧ σ[i]? = some (some (V.ref a))
  · rw [hid_no q] at h; cases h
  · rw [hid_of q] at h; exact h
theorem hid_lift {S : CS} {A0 A : List Addr} {G0 H0 G H G1 H1 : Hp} {σ σ1 : L2.St} {ρ ρ1 : List Sl} {μ : List Cell} (x0 : Ex A0 G0 H0 A G H) (en : En S.cls A H0 G H σ ρ) (W : Wd S A μ G H) (x1 : Ext G (hid σ ρ H) G1 H1) :
    Ex A0 G0 H0 A G1 H1 ∧ Wd S A μ G1 H1 ∧ (En S.cls A (hid σ ρ H) G1 H1 σ1 ρ1 → En S.cls A H0 G1 H1 σ1 ρ1) := by
  have hz : ∀ {a}, (∃ (i : Nat) (ds : List D), ρ[i]? = some (Sl.own ds) ∧ σ[i]? = some (some (V.ref a))) → H0 a = none ∧ a ∉ A := fun {a} ⟨i, ds, q1, q2⟩ => by
    obtain ⟨b, vs, p1, p2, p3, p4, p5, p6⟩ := en.own i ds q1
    rw [q2] at p1; cases p1; exact ⟨p4, p6⟩
  have up0 : ∀ {b o}, H0 b = some o → ∀ {o'}, H b = some o' → hid σ ρ H b = some o' := fun {b o} q {o'} q' => by
    rw [hid_of fun z => by rw [(hz z).1] at q; cases q]; exact q'
  refine ⟨⟨x0.a, x0.g.trans x1.g, fun b o nb q => x1.h _ _ (up0 q (x0.h b o nb q)), fun b o q q' => ?_, fun b o q => ?_⟩, ⟨x1.s, W.len, W.nd, fun i a c h1 h2 => ?_⟩, fun e => ⟨e.len, e.val, fun i ds h => ?_, e.sep, e.cel⟩⟩
  · obtain ⟨o', q2⟩ := x0.l b o q
    exact x1.f _ _ (up0 q q2) (x0.f b o q q')
  · obtain ⟨o', q2⟩ := x0.l b o q
    exact ⟨o', x1.h _ _ (up0 q q2)⟩
  · obtain ⟨n, ok⟩ := W.cell i a c h1 h2
    obtain ⟨o, e⟩ := ok.some
    have e' : hid σ ρ H a = some o := by rw [hid_of fun z => (hz z).2 (List.mem_of_getElem? h1)]; exact e
    exact ⟨x1.f _ _ e' n, ok.up pre_rf x1.g ((x1.h _ _ e').trans e.symm)⟩
  · obtain ⟨a, vs, p1, p2, p3, p4, p5, p6⟩ := e.own i ds h
    refine ⟨a, vs, p1, p2, p3, ?_, p5, p6⟩
    cases q : H0 a with
    | none => rfl
    | some o =>
      obtain ⟨o', q2⟩ := x0.l a o q
      rw [up0 q q2] at p4; cases p4
theorem hid_en {S : CS} {A : List Addr} {H0 G H : Hp} {σ : L2.St} {ρ : List Sl} (en : En S.cls A H0 G H σ ρ) : En S.cls A (hid σ ρ H) G H σ ρ := ⟨en.len, en.val, fun i ds h => by
  obtain ⟨a, vs, p1, p2, p3, p4, p5, p6⟩ := en.own i ds h
  exact ⟨a, vs, p1, p2, p3, hid_no ⟨i, ds, h, p1⟩, p5, p6⟩, en.sep, en.cel⟩
theorem z_liftS {S : CS} {den : List Sl → Option Out} : ∀ E σ H, tZ S (lf den) E σ H → tS S.cls den E σ H := fun E σ H ⟨A0, G0, H0, A, μ, G, ρ, o, μ', x0, en, W, hd, fin⟩ => by
  obtain ⟨o', h1, hd⟩ := obind hd
  obtain ⟨rfl, rfl⟩ : o' = o ∧ μ = μ' := by cases hd; exact ⟨rfl, rfl⟩
  refine ⟨A, G, hid σ ρ H, G, ρ, o', ⟨fun _ _ h => h, W.same, fun b o h => hid_le h, fun b o _ g => g⟩, hid_en en, h1, ?_⟩
  cases o' with
  | nx ρ1 => exact fun G1 H1 σ1 s1 x1 e1 => let ⟨a, b, c⟩ := hid_lift (ρ1 := ρ1) (σ1 := σ1) x0 en W x1; fin A G1 H1 σ1 pre_rf s1 a (c e1) b
  | rt d => exact fun G1 H1 v x1 r1 => let ⟨a, b, c⟩ := hid_lift (ρ1 := []) (σ1 := []) x0 en W x1; fin A G1 H1 v a b r1
  | bk ρ1 => exact fun G1 H1 σ1 s1 x1 e1 => let ⟨a, b, c⟩ := hid_lift (ρ1 := ρ1) (σ1 := σ1) x0 en W x1; fin A G1 H1 σ1 pre_rf s1 a (c e1) b
  | ct ρ1 => exact fun G1 H1 σ1 s1 x1 e1 => let ⟨a, b, c⟩ := hid_lift (ρ1 := ρ1) (σ1 := σ1) x0 en W x1; fin A G1 H1 σ1 pre_rf s1 a (c e1) b
section
variable {X : Cx} {S : CS} {pos : Pos}
theorem zs {st : Stmt} {d : List Sl → Option Out} (h : PS X st (tS S.cls d)) : PS X st (tZ S (lf d)) := ps_to h z_liftS
theorem zss {st : List Stmt} {d : List Sl → Option Out} (h : PSs X st (tS S.cls d)) : PSs X st (tZ S (lf d)) := pss_to h z_liftS
def ySet (i : Nat) (de : SD D) : ZS := fun ρ μ => (de ρ μ).bind fun p => some (.nx (ρ.set i (.val p.1)), p.2)
theorem zs_set {i : Nat} {x : Str} {e : Expr} {de : SD D} {pos' : Pos} (hN : X.N.Nodup) (he : PE X e (zD S de)) (hi : X.N[i]? = some x := by rfl) (hx : Loc X.env.scope x := by first | exact .inl rfl | exact .inr rfl) (hs : swapsWith e (some (.Name x pos')) pos.line X.env = pure false := by rfl) (hf : X.fn x = true ∨ X.env.scope.names.lookup x = some .local := by first | exact .inl rfl | exact .inr rfl | assumption) :
    PS X (.Assign [.Name x pos'] e pos) (tZ S (ySet i de)) :=
  ps_to (ps_set hN hi hx he hs hf) fun E σ H ⟨A0, G0, H0, A, μ, G, ρ, o, μ', x0, en, W, hd, fin⟩ => by
    obtain ⟨⟨d, μ1⟩, h1, hd⟩ := obind hd
    cases hd
    exact ⟨A, μ, H0, G, ρ, d, _, en, W, h1, fun A1 G1 H1 v x1 W1 r1 => fin A1 G1 H1 _ x1.pre x1.g (x0.trans x1) ((en.up x1 W1).put i r1) W1⟩
/-! targets -/
abbrev ZG := D → List Sl → List Cell → Option (List Sl × List Cell)
def tGZ (S : CS) (g : ZG) : TG := fun v σ H Q => ∃ A μ H0 G ρ d ρ' μ', En S.cls A H0 G H σ ρ ∧ Wd S A μ G H ∧ Rp S.cls A G v d ∧ g d ρ μ = some (ρ', μ') ∧ ∀ σ' A' G' H', Ex A G H A' G' H' → En S.cls A' H0 G' H' σ' ρ' → Wd S A' μ' G' H' → Q σ' H'
def tGZs (S : CS) (g : List D → List Sl → List Cell → Option (List Sl × List Cell)) : TGs := fun v σ H Q => ∃ A μ H0 G ρ d ρ' μ', En S.cls A H0 G H σ ρ ∧ Wd S A μ G H ∧ RpAll S.cls A G v d ∧ g d ρ μ = some (ρ', μ') ∧ ∀ σ' A' G' H', Ex A G H A' G' H' → En S.cls A' H0 G' H' σ' ρ' → Wd S A' μ' G' H' → Q σ' H'
def lg (g : D → List Sl → Option (List Sl)) : ZG := fun d ρ μ => (g d ρ).bind fun r => some (r, μ)
theorem zg {t : Expr} {is : List Nat} {g : D → List Sl → Option (List Sl)} (h : PG X t (tG S.cls is g)) : PG X t (tGZ S (lg g)) := pg_to h fun v σ H Q ⟨A, μ, H0, G, ρ, d, ρ', μ', en, W, r, hd, k⟩ => by
  obtain ⟨ρ2, h1, hd⟩ := obind hd
  cases hd
  exact ⟨A, H0, G, ρ, d, ρ', en, W.same, r, h1, fun σ' G' H' x e _ => k σ' A G' H' (.of x) e (W.ext x)⟩
def yAtt (t : Nat) (f : Str) (da : SD D) : ZG := fun d ρ μ => (da ρ μ).bind fun p => (insAt p.2 t p.1).bind fun q => if decide (q.2.length < 100) then some (ρ, p.2.set q.1 (.ins t (putD f d q.2))) else none
theorem zg_att {o : Expr} {da : SD D} {t : Nat} {f : Str} (c : Cls X.K (S.cl t)) (n : NoAttr X.K (S.cl t) f) (ho : PE X o (zD S da))
    (ha : ∀ v, assign (.Attribute o f pos) X.env v = (do { let ov ← holding [v] (eval o X.env); standAt pos.atName; holding [v, ov] (setAttr ov f v); release [v, ov] [] }) := by intro _; rfl) : PG X (.Attribute o f pos) (tGZ S (yAtt t f da)) :=
  pg_to (pg_att ho ha) fun v σ H Q ⟨A, μ, H0, G, ρ, d, ρ', μ', en, W, r, hd, k⟩ => by
    obtain ⟨⟨a, μ1⟩, h1, hd⟩ := obind hd
    obtain ⟨⟨i, fs⟩, h2, hd⟩ := obind hd
    obtain ⟨hz, hd⟩ := oif hd
    cases hd
    refine ⟨A, μ, H0, G, _, a, μ1, en, W, h1, fun A1 G1 H1 x x1 W1 r1 => ?_⟩
    obtain ⟨_, hl, b, dx, us, rfl, gi, g1, g2⟩ := insAt_ok W1 h2 r1
    refine ⟨b, _, dx, us, rfl, g1, c, n, by rw [g2.len]; have := of_decide_eq_true hz; simp only at this; omega, ?_⟩
    obtain ⟨W2, x2⟩ := W1.put (c := .ins t (putD f d fs)) (o := .ins (S.cl t) dx (putF f v us)) gi ⟨dx, _, upd_same, g2.putF (r.up x1.pre x1.g)⟩ hl
    exact k σ A1 G1 _ (x1.trans x2) (en.up (x1.trans x2) W2) W2
def yKey (dd dk : SD D) : ZG := fun v ρ μ => (dd ρ μ).bind fun p => (dk ρ p.2).bind fun q => (keyOf q.1).bind fun k => (dicAt q.2 p.1).bind fun c => if decide (c.2.length < 10000) then some (ρ, q.2.set c.1 (.dic (putK c.2 k q.1 v))) else none
theorem zg_key {a b : Expr} {da db : SD D} (hP : X.prog = S.P) (hw : X.w = S.w) (hu : X.A.units + 64 < cLine) (ha : PE X a (zD S da)) (hb : PE X b (zD S db))
    (hs : ∀ v, assign (.Subscript a b pos) X.env v = (do
      let ov ← holding [v] (eval a X.env)
      let iv ← holding [v, ov] (eval b X.env)
      standAt pos
      holding [v, ov, iv] (setItem ov iv v)
      release [v, ov, iv] []) := by intro _; rfl) : PG X (.Subscript a b pos) (tGZ S (yKey da db)) :=
  pg_to (pg_sub ha hb (set_X hu) hs) fun v σ H Q ⟨A, μ, H0, G, ρ, d, ρ', μ', en, W, r, hd, k⟩ => by
    obtain ⟨⟨a, μ1⟩, h1, hd⟩ := obind hd
    obtain ⟨⟨b, μ2⟩, h2, hd⟩ := obind hd
    obtain ⟨ky, h3, hd⟩ := obind hd
    obtain ⟨⟨i, kvs⟩, h4, hd⟩ := obind hd
    obtain ⟨hz, hd⟩ := oif hd
    cases hd
    refine ⟨A, μ, H0, G, _, a, μ1, en, W, h1, fun A1 G1 H1 x x1 W1 r1 => ⟨A1, μ1, H0, G1, _, b, μ2, en.up x1 W1, W1, h2, fun A2 G2 H2 y x2 W2 r2 => ?_⟩⟩
    have r1' := r1.up x2.pre x2.g
    obtain ⟨k1, k2, ad, rfl⟩ := keyOf_ok h3 r2
    obtain ⟨_, hl, c, xs, rfl, gi, g1, g2⟩ := dicAt_ok W2 h4 r1'
    have x12 := x1.trans x2
    refine ⟨ad, c, xs, ky, rfl, rfl, by rw [hP, hw]; exact g1, g2.keys W2.same, r2.nk W2.same k1, k2, by rw [g2.len]; have := of_decide_eq_true hz; simp only at this; omega, ?_⟩
    obtain ⟨W3, x3⟩ := W2.put (c := .dic (putK kvs ky b d)) (o := dicO S.P S.w c (storedX xs ky ad v)) gi ⟨_, upd_same, g2.put r2 k1 k2 (r.up x12.pre x12.g)⟩ hl
    rw [hP, hw]
    exact k σ A2 G2 _ (x12.trans x3) (en.up (x12.trans x3) W3) W3
def ygnil : List D → List Sl → List Cell → Option (List Sl × List Cell)
  | [], ρ, μ => some (ρ, μ)
  | _, _, _ => none
def ygcons (g : ZG) (gs : List D → List Sl → List Cell → Option (List Sl × List Cell)) : List D → List Sl → List Cell → Option (List Sl × List Cell)
  | d :: ds, ρ, μ => (g d ρ μ).bind fun p => gs ds p.1 p.2
  | [], _, _ => none
theorem zg_nil : PGs X [] (tGZs S ygnil) := pgs_to pgs_nil fun vs σ H Q ⟨A, μ, H0, G, ρ, d, ρ', μ', en, W, r, hd, k⟩ => by
  cases r with
  | nil => cases hd; exact ⟨rfl, k σ A G H .refl en W⟩
  | cons _ _ => cases hd
theorem zg_cons {e : Expr} {es : List Expr} {g : ZG} {gs : List D → List Sl → List Cell → Option (List Sl × List Cell)} (h1 : PG X e (tGZ S g)) (h2 : PGs X es (tGZs S gs))
    (hs : (assignEach (e :: es) X.env).map (·.2) = assign e X.env :: (assignEach es X.env).map (·.2) := by rfl) : PGs X (e :: es) (tGZs S (ygcons g gs)) :=
  pgs_to (pgs_cons h1 h2 hs) fun vs σ H Q ⟨A, μ, H0, G, ρ, ds, ρ', μ', en, W, r, hd, k⟩ => by
    cases r with
    | nil => cases hd
    | cons r1 r2 =>
      obtain ⟨⟨ρ1, μ1⟩, h1, hd⟩ := obind hd
      exact ⟨_, _, rfl, A, μ, H0, G, ρ, _, ρ1, μ1, en, W, r1, h1, fun σ1 A1 G1 H1 x1 en1 W1 => ⟨A1, μ1, H0, G1, ρ1, _, ρ', μ', en1, W1, r2.up x1.pre x1.g, hd, fun σ2 A2 G2 H2 x2 en2 W2 => k σ2 A2 G2 H2 (x1.trans x2) en2 W2⟩⟩
def ygTu (n : Nat) (gs : List D → List Sl → List Cell → Option (List Sl × List Cell)) : ZG := fun d ρ μ => match d with
  | .tup ds => if ds.length == n then gs ds ρ μ else none
  | _ => none
theorem zg_tup {es : List Expr} {k : Nat} {gs : List D → List Sl → List Cell → Option (List Sl × List Cell)} {n : Nat} (hc : X.calm = true) (h : PGs X es (tGZs S gs))
    (hn : (assignEach es X.env).length = n := by rfl) (hst : (assignEach es X.env).findIdx? (·.1) = none := by rfl) : PG X (.Tuple es k pos) (tGZ S (ygTu n gs)) :=
  pg_to (pg_tup hc h hn hst) fun v σ H Q ⟨A, μ, H0, G, ρ, d, ρ', μ', en, W, r, hd, k⟩ => by
    unfold ygTu at hd
    split at hd
    · split at hd
      · rename_i hl
        cases r with
        | tup e ra => exact ⟨_, _, rfl, .of (W.same _ _ e), by rw [ra.len]; exact beq_iff_eq.mp hl, A, μ, H0, G, ρ, _, ρ', μ', en, W, ra, hd, k⟩
      · cases hd
    · cases hd
def yAsg (de : SD D) (g : ZG) : ZS := fun ρ μ => (de ρ μ).bind fun p => (g p.1 ρ p.2).bind fun q => some (.nx q.1, q.2)
theorem zs_asg {tg e : Expr} {de : SD D} {g : ZG} (he : PE X e (zD S de)) (hg : PG X tg (tGZ S g)) (hs : swapsWithSole [tg] e pos.line X.env = pure false := by rfl) (hw : swappedStores [tg] e X.env = pure none := by rfl)
    (h1 : (assignEach [tg] X.env).map (·.2) = [assign tg X.env] := by rfl) : PS X (.Assign [tg] e pos) (tZ S (yAsg de g)) :=
  ps_to (ps_asg he hg hs hw h1) fun E σ H ⟨A0, G0, H0, A, μ, G, ρ, o, μ', x0, en, W, hd, fin⟩ => by
    obtain ⟨⟨d, μ1⟩, h1, hd⟩ := obind hd
    obtain ⟨⟨ρ', μ2⟩, h2, hd⟩ := obind hd
    cases hd
    exact ⟨A, μ, H0, G, ρ, d, μ1, en, W, h1, fun A1 G1 H1 v x1 W1 r1 => ⟨A1, μ1, H0, G1, ρ, d, ρ', _, en.up x1 W1, W1, r1, h2, fun σ2 A2 G2 H2 x2 en2 W2 => fin A2 G2 H2 σ2 (pre_tr x1.pre x2.pre) (x1.g.trans x2.g) ((x0.trans x1).trans x2) en2 W2⟩⟩
/-! flow -/
def yRet (de : SD D) : ZS := fun ρ μ => (de ρ μ).bind fun p => some (.rt p.1, p.2)
theorem zs_ret {e : Expr} {de : SD D} (he : PE X e (zD S de)) : PS X (.Return (some e) pos) (tZ S (yRet de)) :=
  ps_to (ps_ret he) fun E σ H ⟨A0, G0, H0, A, μ, G, ρ, o, μ', x0, en, W, hd, fin⟩ => by
    obtain ⟨⟨d, μ1⟩, h1, hd⟩ := obind hd
    cases hd
    exact ⟨A, μ, H0, G, ρ, d, _, en, W, h1, fun A1 G1 H1 v x1 W1 r1 => fin A1 G1 H1 v (x0.trans x1) W1 r1⟩
def ySeq (d e : ZS) : ZS := fun ρ μ => (d ρ μ).bind fun p => match p.1 with
  | .nx ρ' => e ρ' p.2
  | _ => some p
theorem zs_cons {st : Stmt} {rest : List Stmt} {d e : ZS} (h1 : PS X st (tZ S d)) (h2 : PSs X rest (tZ S e)) : PSs X (st :: rest) (tZ S (ySeq d e)) :=
  pss_to (pss_cons h1 h2) fun E σ H ⟨A0, G0, H0, A, μ, G, ρ, o, μ', x0, en, W, hd, fin⟩ => by
    obtain ⟨⟨o1, μ1⟩, h1, hd⟩ := obind hd
    refine ⟨A0, G0, H0, A, μ, G, ρ, o1, μ1, x0, en, W, h1, ?_⟩
    cases o1 with
    | nx ρ1 => exact fun A1 G1 H1 σ1 p1 s1 x1 en1 W1 => ⟨A0, G0, H0, A1, μ1, G1, ρ1, o, μ', x1, en1, W1, hd, fin.mono p1 s1⟩
    | rt d => cases hd; exact fin
    | bk ρ1 => cases hd; exact fin
    | ct ρ1 => cases hd; exact fin
theorem zs_one {st : Stmt} {d : ZS} (h1 : PS X st (tZ S d)) : PSs X [st] (tZ S d) := pss_one h1
def yIf (c : SD Bool) (d e : ZS) : ZS := fun ρ μ => (c ρ μ).bind fun p => if p.1 then d ρ p.2 else e ρ p.2
theorem zs_if {c : Expr} {a b : List Stmt} {dc : SD Bool} {d e : ZS} (hc : PT X c (zB S dc)) (ha : PSs X a (tZ S d)) (hb : PSs X b (tZ S e)) : PS X (.If c a b pos) (tZ S (yIf dc d e)) :=
  ps_to (ps_if hc ha hb) fun E σ H ⟨A0, G0, H0, A, μ, G, ρ, o, μ', x0, en, W, hd, fin⟩ => by
    obtain ⟨⟨b, μ1⟩, h1, hd⟩ := obind hd
    refine ⟨A, μ, H0, G, ρ, b, μ1, en, W, h1, fun A1 G1 H1 v x1 W1 r1 => ?_⟩
    obtain rfl : v = b := r1
    cases v with
    | true => exact ⟨A0, G0, H0, A1, μ1, G1, ρ, o, μ', x0.trans x1, en.up x1 W1, W1, by simpa using hd, fin.mono x1.pre x1.g⟩
    | false => exact ⟨A0, G0, H0, A1, μ1, G1, ρ, o, μ', x0.trans x1, en.up x1 W1, W1, by simpa using hd, fin.mono x1.pre x1.g⟩
/-- a call whose value is dropped -/
def yDrop (de : SD D) : ZS := fun ρ μ => (de ρ μ).bind fun p => some (.nx ρ, p.2)
theorem z_drop {de : SD D} : ∀ E σ H, tZ S (yDrop de) E σ H → tDrop (zD S de) E σ H := fun E σ H ⟨A0, G0, H0, A, μ, G, ρ, o, μ', x0, en, W, hd, fin⟩ => by
  obtain ⟨⟨d, μ1⟩, h1, hd⟩ := obind hd
  cases hd
  exact ⟨A, μ, H0, G, ρ, d, _, en, W, h1, fun A1 G1 H1 v x1 W1 r1 => fin A1 G1 H1 σ x1.pre x1.g (x0.trans x1) (en.up x1 W1) W1⟩
/-! loops -/
abbrev ZL := List Sl → List Cell → Option (List D × List Cell)
def tIZ (S : CS) (den : ZL) : TI := fun σ H R => ∃ A μ H0 G ρ ds μ1, En S.cls A H0 G H σ ρ ∧ Wd S A μ G H ∧ den ρ μ = some (ds, μ1) ∧ ∀ J A' G' H', Ex A G H A' G' H' → Wd S A' μ1 G' H' → Wk S.cls A' J G' ds → R J H'
theorem zi {tg it : Expr} {d : List Sl → Option (List D)} (h : PI X tg it (tI S.cls d)) : PI X tg it (tIZ S (lf d)) := pi_to h fun σ H R ⟨A, μ, H0, G, ρ, ds, μ1, en, W, hd, k⟩ => by
  obtain ⟨ds', h1, hd⟩ := obind hd
  cases hd
  exact ⟨A, H0, G, ρ, _, en, W.same, h1, fun J G' H' x wk => k J A G' H' (.of x) (W.ext x) wk⟩
def zforD (g : D → List Sl → Option (List Sl)) (body : ZS) : List D → ZS
  | [], ρ, μ => some (.nx ρ, μ)
  | d :: ds, ρ, μ => (g d ρ).bind fun ρ1 => (body ρ1 μ).bind fun p => match p.1 with
    | .nx ρ2 => zforD g body ds ρ2 p.2
    | .ct ρ2 => zforD g body ds ρ2 p.2
    | .bk ρ2 => some (.nx ρ2, p.2)
    | .rt d => some (.rt d, p.2)
def yFor (di : ZL) (g : D → List Sl → Option (List Sl)) (body : ZS) : ZS := fun ρ μ => (di ρ μ).bind fun p => zforD g body p.1 ρ p.2
theorem zs_for {tg iter : Expr} {body : List Stmt} {is : List Nat} {di : ZL} {g : D → List Sl → Option (List Sl)} {db : ZS} (hp : PassesOwn (model X.prog X.w) X.A X.env X.xe) (hc : X.calm = true) (hi : PI X tg iter (tIZ S di)) (hg : PG X tg (tG S.cls is g)) (hb : PSs X body (tZ S db))
    (hs : ∀ x, foldedSetIterable iter X.env x = pure x := by intro _; rfl) : PS X (.For tg iter body [] pos) (tZ S (yFor di g db)) :=
  ps_to (ps_for hp hc hi hg hb hs) fun E σ H ⟨A0, G0, H0, A, μ, G, ρ, o, μ', x0, en, W, hd, fin⟩ => by
    obtain ⟨⟨ds, μ1⟩, h1, hd⟩ := obind hd
    refine ⟨A, μ, H0, G, ρ, ds, μ1, en, W, h1, fun J A1 G1 H1 x1 W1 wk => ?_⟩
    refine ⟨fun i m σ2 H2 => m = ds.length - i ∧ i ≤ ds.length ∧ ∃ A2 μ2 G2 ρ2, (∃ nw, A2 = A1 ++ nw) ∧ Same G1 G2 ∧ Ex A0 G0 H0 A2 G2 H2 ∧ En S.cls A2 H0 G2 H2 σ2 ρ2 ∧ Wd S A2 μ2 G2 H2 ∧ zforD g db (ds.drop i) ρ2 μ2 = some (o, μ'),
      ⟨ds.length, by simp, Nat.zero_le _, A1, μ1, G1, ρ, pre_rf, fun _ _ h => h, x0.trans x1, en.up x1 W1, W1, hd⟩, ?_⟩
    rintro i m σ2 H2 ⟨rfl, hi, A2, μ2, G2, ρ2, p2, s2, x2, en2, W2, hf⟩
    obtain ⟨wstop, wgo⟩ := wk i G2 H2 s2 W2.same
    by_cases lt : i < ds.length
    · have gd : ds[i]? = some ds[i] := List.getElem?_eq_getElem lt
      obtain ⟨go, yl⟩ := wgo _ gd
      rw [List.drop_eq_getElem_cons lt] at hf
      unfold zforD at hf
      obtain ⟨ρ3, g1, hf⟩ := obind hf
      obtain ⟨⟨o3, μ3⟩, b1, hf⟩ := obind hf
      refine .inr ⟨go, fun σ' H' => ∃ A2 μ2 G2 ρ2, (∃ nw, A2 = A1 ++ nw) ∧ Same G1 G2 ∧ Ex A0 G0 H0 A2 G2 H' ∧ En S.cls A2 H0 G2 H' σ' ρ2 ∧ Wd S A2 μ2 G2 H' ∧ zforD g db (ds.drop (i + 1)) ρ2 μ2 = some (o, μ'), fun σ' H' hN => ⟨ds.length - (i + 1), by omega, rfl, lt, hN⟩, fun x H3 hy => ?_⟩
      obtain ⟨G3, x3, r3⟩ := yl x H3 hy
      have X3 := Ex.of (A := A2) x3
      have W3 := W2.ext x3
      refine ⟨A2, H0, G3, ρ2, _, ρ3, en2.up X3 W3, x3.s, r3.up p2 (fun _ _ h => h), g1, fun σ4 G4 H4 x4 en4 _ => ⟨A0, G0, H0, A2, μ2, G4, ρ3, o3, μ3, (x2.trans X3).trans (.of x4), en4, W3.ext x4, b1, ?_⟩⟩
      have s4 : Same G1 G4 := (s2.trans x3.g).trans x4.g
      cases o3 with
      | nx ρ5 => exact fun A5 G5 H5 σ5 p5 s5 x5 en5 W5 => ⟨A5, μ3, G5, ρ5, pre_tr p2 p5, s4.trans s5, x5, en5, W5, hf⟩
      | ct ρ5 => exact fun A5 G5 H5 σ5 p5 s5 x5 en5 W5 => ⟨A5, μ3, G5, ρ5, pre_tr p2 p5, s4.trans s5, x5, en5, W5, hf⟩
      | bk ρ5 => cases hf; exact fun A5 G5 H5 σ5 p5 s5 x5 en5 W5 => fin A5 G5 H5 σ5 (pre_tr x1.pre (pre_tr p2 p5)) ((x1.g.trans s4).trans s5) x5 en5 W5
      | rt d => cases hf; exact fin
    · have ei : i = ds.length := by omega
      subst ei
      rw [List.drop_length] at hf
      cases hf
      exact .inl ⟨wstop rfl, fin A2 G2 H2 σ2 (pre_tr x1.pre p2) (x1.g.trans s2) x2 en2 W2⟩
def zwhileD (c : SD Bool) (body : ZS) : Nat → ZS
  | 0, _, _ => none
  | n + 1, ρ, μ => (c ρ μ).bind fun q => if q.1 then (body ρ q.2).bind fun p => match p.1 with
      | .nx ρ2 => zwhileD c body n ρ2 p.2
      | .ct ρ2 => zwhileD c body n ρ2 p.2
      | .bk ρ2 => some (.nx ρ2, p.2)
      | .rt d => some (.rt d, p.2)
    else some (.nx ρ, q.2)
theorem zs_while {c : Expr} {body : List Stmt} {dc : SD Bool} {db : ZS} (n : Nat) (hp : PassesOwn (model X.prog X.w) X.A X.env X.xe) (hc : PT X c (zB S dc)) (hb : PSs X body (tZ S db)) : PS X (.While c body [] pos) (tZ S (zwhileD dc db n)) :=
  ps_to (ps_while hp hc hb) fun E σ H ⟨A0, G0, H0, A, μ, G, ρ, o, μ', x0, en, W, hd, fin⟩ => by
    refine ⟨fun m σ2 H2 => ∃ A2 μ2 G2 ρ2, (∃ nw, A2 = A ++ nw) ∧ Same G G2 ∧ Ex A0 G0 H0 A2 G2 H2 ∧ En S.cls A2 H0 G2 H2 σ2 ρ2 ∧ Wd S A2 μ2 G2 H2 ∧ zwhileD dc db m ρ2 μ2 = some (o, μ'), ⟨n, A, μ, G, ρ, pre_rf, fun _ _ h => h, x0, en, W, hd⟩, ?_⟩
    rintro m σ2 H2 ⟨A2, μ2, G2, ρ2, p2, s2, x2, en2, W2, hf⟩
    cases m with
    | zero => cases hf
    | succ m =>
      unfold zwhileD at hf
      obtain ⟨⟨b, μ3⟩, c1, hf⟩ := obind hf
      refine ⟨A2, μ2, H0, G2, ρ2, b, μ3, en2, W2, c1, fun A3 G3 H3 v x3 W3 r3 => ?_⟩
      obtain rfl : v = b := r3
      cases v with
      | true =>
        obtain ⟨⟨o3, μ4⟩, b1, hf⟩ := obind (by simpa using hf)
        rw [if_pos rfl]
        refine ⟨fun σ' H' => ∃ A2 μ2 G2 ρ2, (∃ nw, A2 = A ++ nw) ∧ Same G G2 ∧ Ex A0 G0 H0 A2 G2 H' ∧ En S.cls A2 H0 G2 H' σ' ρ2 ∧ Wd S A2 μ2 G2 H' ∧ zwhileD dc db m ρ2 μ2 = some (o, μ'), fun σ' H' hN => ⟨m, Nat.lt_succ_self _, hN⟩, A0, G0, H0, A3, μ3, G3, ρ2, o3, μ4, x2.trans x3, en2.up x3 W3, W3, b1, ?_⟩
        have s4 : Same G G3 := s2.trans x3.g
        have p4 := pre_tr p2 x3.pre
        cases o3 with
        | nx ρ5 => exact fun A5 G5 H5 σ5 p5 s5 x5 en5 W5 => ⟨A5, μ4, G5, ρ5, pre_tr p4 p5, s4.trans s5, x5, en5, W5, hf⟩
        | ct ρ5 => exact fun A5 G5 H5 σ5 p5 s5 x5 en5 W5 => ⟨A5, μ4, G5, ρ5, pre_tr p4 p5, s4.trans s5, x5, en5, W5, hf⟩
        | bk ρ5 => cases hf; exact fun A5 G5 H5 σ5 p5 s5 x5 en5 W5 => fin A5 G5 H5 σ5 (pre_tr p4 p5) (s4.trans s5) x5 en5 W5
        | rt d => cases hf; exact fin
      | false =>
        have : o = .nx ρ2 ∧ μ' = μ3 := by simpa [eq_comm] using hf
        obtain ⟨rfl, rfl⟩ := this
        rw [if_neg Bool.false_ne_true]
        exact fin A3 G3 H3 σ2 (pre_tr p2 x3.pre) (s2.trans x3.g) (x2.trans x3) (en2.up x3 W3) W3
end
/-! a def -/
def runS (np n : Nat) (den : ZS) : FnS := fun ds μ => if ds.length == np then (den (start0 n ds) μ).bind fun p => match p.1 with
    | .rt d => some (d, p.2)
    | .nx _ => some (.non, p.2)
    | _ => none
  else none
section
variable {P : Program} {w : World} {K : PySem.W.Frag} {mg : Str → Option Value} {base : Heap}
theorem fnS_den {Z : CS} {x qual : Str} {st : Stmt} {f : Addr} {fd : FuncData} {N ps : List Str} {k : Nat} {den : ZS} (F : Fun K x qual st f fd) (S : FnScope N ps (defScope st))
    (hbody : ∀ (cdv : Value) (A : Around) (outer : List Env) (s : Shared) (H : Hp) (E : XK), Room k (A.deeper (envOfC qual (defScope st) s.heap.objs.size f cdv)) →
      PSs (cxOf CX0 P w K mg base N qual (defScope st) f cdv A outer s H E).nox (defBody st) (tZ Z den)) : FnOk P w K mg base CX0 (k + 1) f fd ps (SpS Z (runS ps.length N.length den)) := by
  have hpl : ps.length ≤ N.length := by have := congrArg List.length S.pre; rw [List.length_take] at this; omega
  refine F.ok S (fun vs H Q E h => ?_) (fun cdv A outer s H vs Q E hr h => ⟨_, hbody cdv A outer s H E hr, ?_⟩)
  · obtain ⟨A, μ, G, ds, d, μ', W, r, hd, _⟩ := h
    unfold runS at hd
    split at hd
    · rename_i hl
      rw [r.len]
      exact beq_iff_eq.mp hl
    · cases hd
  · obtain ⟨A, μ, G, ds, d, μ', W, r, hd, fin⟩ := h
    unfold runS at hd
    split at hd
    · rename_i hl
      obtain ⟨⟨o, μ1⟩, h1, hd⟩ := obind hd
      refine ⟨A, G, H, A, μ, G, _, o, μ1, .refl, start_en W.cel r (by rw [r.len, beq_iff_eq.mp hl]; exact hpl), W, h1, ?_⟩
      cases o with
      | rt d' => cases hd; exact fun A1 G1 H1 v x1 W1 r1 => fin A1 G1 H1 v x1 W1 r1
      | nx ρ => cases hd; exact fun A1 G1 H1 σ1 p1 s1 x1 en1 W1 => fin A1 G1 H1 .non x1 W1 .non
      | bk ρ => cases hd
      | ct ρ => cases hd
    · cases hd
end
end DN

set_option maxHeartbeats 1000000
/-! lists as cells; comprehensions whose element changes cells; own operators of Numbers -/
namespace DN
open PySem PySem.Spec PyProof.Rows L2 KG
def lstAt (μ : List Cell) : D → Option (Nat × List D)
  | .ref i => match μ[i]? with
    | some (.lst ds) => some (i, ds)
    | _ => none
  | _ => none
theorem lstAt_ok {S : CS} {A : List Addr} {μ : List Cell} {G H : Hp} (W : Wd S A μ G H) {i : Nat} {d : D} {ds : List D} {x : V} (h : lstAt μ d = some (i, ds)) (r : Rp S.cls A G x d) :
    d = .ref i ∧ i < μ.length ∧ ∃ a vs, x = .ref a ∧ A[i]? = some a ∧ H a = some (.lst vs) ∧ RpAll S.cls A G vs ds := by
  unfold lstAt at h
  split at h
  · split at h
    · rename_i j _ gs e
      cases h
      cases r with
      | ref hi =>
        rename_i a
        obtain ⟨n, vs, h1, h2⟩ := W.cell _ a _ hi e
        exact ⟨rfl, (List.getElem?_eq_some_iff.mp e).1, a, vs, rfl, hi, h1, h2⟩
    · cases h
  · cases h
section
variable {X : Cx} {S : CS} {pos : Pos}
/-- [..] as a cell -/
def zLstC (das : SD (List D)) : SD D := fun ρ μ => (das ρ μ).bind fun p => if decide (p.1.length ≤ szB) then some (.ref p.2.length, p.2 ++ [.lst p.1]) else none
theorem zn_lstC {es : List Expr} {das : SD (List D)} (h : PA X es (zA S das)) : PE X (.List es pos) (zD S (zLstC das)) :=
  pe_to (pe_lst h) fun σ H Q ⟨A, μ, H0, G, ρ, d, μ', e, W, hd, k⟩ => by
    obtain ⟨⟨ds, μ1⟩, h1, hd⟩ := obind hd
    obtain ⟨hz, hd⟩ := oif hd
    cases hd
    refine ⟨A, μ, H0, G, ρ, ds, _, e, W, h1, fun A1 G1 H1 xs x1 W1 r1 => ⟨by rw [r1.len]; exact sz_ok hz, fun p np => ?_⟩⟩
    obtain ⟨W2, x2⟩ := W1.add (H' := upd H1 p (.lst xs)) (c := .lst ds) np (same_new np _) ⟨xs, upd_same, r1.up ⟨[p], rfl⟩ (fun _ _ h => h)⟩
    refine k _ G1 _ _ (x1.trans x2) W2 (.ref ?_)
    rw [← W1.len, List.getElem?_append_right (Nat.le_refl _), Nat.sub_self]
    rfl
/-- xs.pop() -/
def zPopC (d : SD D) : SD D := fun ρ μ => (d ρ μ).bind fun p => (lstAt p.2 p.1).bind fun c => (c.2[c.2.length - 1]?).bind fun x => some (x, p.2.set c.1 (.lst c.2.dropLast))
theorem zn_popC {o e : Expr} {d : SD D} (hpe : ∀ {to : TE}, PE X o to → PE X e (tBM0 X.K "list" rPop to)) (ho : PE X o (zD S d)) : PE X e (zD S (zPopC d)) :=
  pe_to (hpe ho) fun σ H Q ⟨A, μ, H0, G, ρ, z, μ', en, W, hd, k⟩ => by
    obtain ⟨⟨a, μ1⟩, h1, hd⟩ := obind hd
    obtain ⟨⟨i, ds⟩, h2, hd⟩ := obind hd
    obtain ⟨x, h3, hd⟩ := obind hd
    cases hd
    refine ⟨A, μ, H0, G, ρ, a, μ1, en, W, h1, fun A1 G1 H1 v x1 W1 r1 => ?_⟩
    obtain ⟨_, hl, b, vs, rfl, gi, g1, g2⟩ := lstAt_ok W1 h2 r1
    obtain ⟨y, q1, q2⟩ := g2.get h3
    rw [← g2.len] at q1
    refine ⟨.inl ⟨rfl, vs, .of g1⟩, b, vs, y, rfl, rfl, g1, q1, ?_⟩
    obtain ⟨W2, x2⟩ := W1.put (c := .lst ds.dropLast) (o := .lst vs.dropLast) gi ⟨_, upd_same, g2.dropLast⟩ hl
    exact k A1 G1 _ y (x1.trans x2) W2 q2
/-- xs.append(e) -/
def zAppC (d : SD D) (e : SD D) : SD D := fun ρ μ => (d ρ μ).bind fun p => (lstAt p.2 p.1).bind fun _ => (e ρ p.2).bind fun q => (lstAt q.2 p.1).bind fun c => if decide (c.2.length ≤ szB) then some (.non, q.2.set c.1 (.lst (c.2 ++ [q.1]))) else none
theorem zn_appC {o a e : Expr} {d da : SD D} (hpe : ∀ {to : TE} {t : TA}, PE X o to → PA X [a] t → PE X e (tBM X.K "list" rAppend to t)) (ho : PE X o (zD S d)) (ha : PE X a (zD S da))
    (hst : starEach [a] X.env = (false, eval a X.env) :: starEach [] X.env := by rfl) : PE X e (zD S (zAppC d da)) :=
  pe_to (hpe ho (pa_cons ha pa_nil hst)) fun σ H Q ⟨A, μ, H0, G, ρ, z, μ', en, W, hd, k⟩ => by
    obtain ⟨⟨a, μ1⟩, h1, hd⟩ := obind hd
    obtain ⟨⟨i0, ds0⟩, h2, hd⟩ := obind hd
    obtain ⟨⟨y, μ2⟩, h3, hd⟩ := obind hd
    obtain ⟨⟨i, ds⟩, h4, hd⟩ := obind hd
    obtain ⟨hz, hd⟩ := oif hd
    cases hd
    refine ⟨A, μ, H0, G, ρ, a, μ1, en, W, h1, fun A1 G1 H1 v x1 W1 r1 => ?_⟩
    obtain ⟨_, _, b, vs0, e0, _, g01, _⟩ := lstAt_ok W1 h2 r1
    refine ⟨by subst e0; exact .inl ⟨rfl, vs0, .of g01⟩, A1, μ1, H0, G1, ρ, y, μ2, en.up x1 W1, W1, h3, fun A2 G2 H2 u x2 W2 r2 => ?_⟩
    obtain ⟨_, hl, b', vs, eb, gi, g1, g2⟩ := lstAt_ok W2 h4 (r1.up x2.pre x2.g)
    refine ⟨b', vs, u, eb, rfl, g1, by rw [g2.len]; exact sz_lt hz, ?_⟩
    obtain ⟨W3, x3⟩ := W2.put (c := .lst (ds ++ [y])) (o := .lst (vs ++ [u])) gi ⟨_, upd_same, g2.append (.cons r2 .nil)⟩ hl
    exact k A2 G2 _ .non ((x1.trans x2).trans x3) W3 .non
/-- xs[i] of a cell -/
def zIxC (da db : SD D) : SD D := fun ρ μ => (da ρ μ).bind fun p => (db ρ p.2).bind fun q => (lstAt q.2 p.1).bind fun c => (fIx (.lst c.2) q.1).bind fun d => some (d, q.2)
theorem zn_ixC {a b : Expr} {da db : SD D} (ha : PE X a (zD S da)) (hb : PE X b (zD S db)) (hs : PlainIx b) : PE X (.Subscript a b pos) (zD S (zIxC da db)) :=
  pe_to (pe_ix ix_list ha hb hs) fun σ H Q ⟨A, μ, H0, G, ρ, d, μ', en, W, hd, k⟩ => by
    obtain ⟨⟨a, μ1⟩, h1, hd⟩ := obind hd
    obtain ⟨⟨b, μ2⟩, h2, hd⟩ := obind hd
    obtain ⟨⟨i, ds⟩, h3, hd⟩ := obind hd
    obtain ⟨x, h4, hd⟩ := obind hd
    cases hd
    refine ⟨A, μ, H0, G, ρ, a, μ1, en, W, h1, fun A1 G1 H1 v x1 W1 r1 => ⟨A1, μ1, H0, G1, ρ, b, _, en.up x1 W1, W1, h2, fun A2 G2 H2 y x2 W2 r2 => ?_⟩⟩
    obtain ⟨_, hl, c, vs, rfl, gi, g1, g2⟩ := lstAt_ok W2 h3 (r1.up x2.pre x2.g)
    cases b with
    | int n =>
      cases r2
      obtain ⟨u, q1, q2⟩ := at_rp g2 (show atI ds n = some _ from h4)
      exact ⟨c, vs, _, u, rfl, rfl, .of g1, q1, k A2 G2 H2 u (x1.trans x2) W2 q2⟩
    | _ => cases h4
/-- slices, backwards -/
def zSl (de : SD D) (dl dh : SD (Option Int)) : SD D := fun ρ μ => (de ρ μ).bind fun p => (dl ρ p.2).bind fun q => (dh ρ q.2).bind fun r => (fSl p.1 q.1 r.1).bind fun d => some (d, r.2)
def zp1 (d : SD D) : SD (Option Int) := fun ρ μ => (d ρ μ).bind fun p => (asI p.1).bind fun i => some (i, p.2)
theorem zo_some {e : Expr} {d : SD D} (h : PE X e (zD S d)) : PO X (some e) (zP S (zp1 d)) := po_to (po_some h) fun σ H Q ⟨A, μ, H0, G, ρ, z, μ', en, W, hd, k⟩ => by
  obtain ⟨⟨a, μ1⟩, h1, hd⟩ := obind hd
  obtain ⟨i, h2, hd⟩ := obind hd
  cases hd
  refine ⟨A, μ, H0, G, ρ, a, _, en, W, h1, fun A1 G1 H1 x x1 W1 r1 => ?_⟩
  change asI a = _ at h2
  unfold asI at h2
  split at h2
  · cases h2
    cases r1
    exact ⟨_, rfl, k A1 G1 H1 _ x1 W1 rfl⟩
  · cases h2
theorem zn_slice {e : Expr} {lo hi : Option Expr} {p2 : Pos} {de : SD D} {dl dh : SD (Option Int)} (he : PE X e (zD S de)) (hl : PO X lo (zP S dl)) (hi' : PO X hi (zP S dh)) : PE X (.Subscript e (.Slice lo hi none p2) pos) (zD S (zSl de dl dh)) :=
  pe_to (pe_slice (r := rSlB X.K) (sl_tupA.or sl_list) he hl hi') fun σ H Q ⟨A, μ, H0, G, ρ, z, μ', en, W, hd, k⟩ => by
    obtain ⟨⟨a, μ1⟩, h1, hd⟩ := obind hd
    obtain ⟨⟨l, μ2⟩, h2, hd⟩ := obind hd
    obtain ⟨⟨u, μ3⟩, h3, hd⟩ := obind hd
    obtain ⟨d, h4, hd⟩ := obind hd
    obtain ⟨rfl, rfl⟩ : d = z ∧ μ3 = μ' := by cases hd; exact ⟨rfl, rfl⟩
    clear hd
    refine ⟨A, μ, H0, G, ρ, a, μ1, en, W, h1, fun A1 G1 H1 x x1 W1 r1 => ⟨A1, μ1, H0, G1, ρ, l, μ2, en.up x1 W1, W1, h2, fun A2 G2 H2 l' x2 W2 el => ⟨A2, μ2, H0, G2, ρ, u, _, (en.up x1 W1).up x2 W2, W2, h3, fun A3 G3 H3 u' x3 W3 eu => ?_⟩⟩⟩
    subst el
    subst eu
    have r3 := (r1.up x2.pre x2.g).up x3.pre x3.g
    have X3 := (x1.trans x2).trans x3
    change fSl a l' u' = some d at h4
    cases a with
    | tup ds =>
      obtain rfl : D.tup (cutD ds l' u') = d := Option.some.inj h4
      cases r3 with
      | @tup _ vs _ ea ra =>
        refine .inl ⟨_, _, rfl, .of (W3.same _ _ ea), fun z => k _ _ _ _ X3 W3 ?_, fun _ p np => ?_⟩
        · rw [ra.len] at z
          have hc : cutD ds l' u' = ds := by
            unfold cutD
            rw [z.1, z.2, List.drop_zero, Nat.sub_zero, List.take_length]
          rw [hc]
          exact .tup ea ra
        · have x4 := Ext.new W3.same np (.tup (cutV vs l' u'))
          exact k _ _ _ _ (X3.trans (.of x4)) (W3.ext x4) (.tup upd_same ((cut_rp ra l' u').mono (same_new (none_of W3.same np) _)))
    | lst ds =>
      obtain rfl : D.lst (cutD ds l' u') = d := Option.some.inj h4
      cases r3 with
      | @lst _ vs _ ea ra =>
        refine .inr ⟨_, _, rfl, .of (W3.same _ _ ea), fun p np => ?_⟩
        have x4 := Ext.new W3.same np (.lst (cutV vs l' u'))
        exact k _ _ _ _ (X3.trans (.of x4)) (W3.ext x4) (.lst upd_same ((cut_rp ra l' u').mono (same_new (none_of W3.same np) _)))
    | _ => cases h4
theorem zn_back {e : Expr} {de : SD D} {k : Nat} {p1 p2 p3 : Pos} (he : PE X e (zD S de)) : PE X (.Subscript e (.Slice none none (some (.UnaryOp .USub (.Constant (.int 1) k p1) p2)) p3) pos) (zD S (z1 fBack de)) :=
  pe_to (pe_revL he) fun σ H Q ⟨A, μ, H0, G, ρ, z, μ', en, W, hd, k⟩ => by
    obtain ⟨⟨a, μ1⟩, h1, hd⟩ := obind hd
    obtain ⟨d, h2, hd⟩ := obind hd
    obtain ⟨rfl, rfl⟩ : d = z ∧ μ1 = μ' := by cases hd; exact ⟨rfl, rfl⟩
    change fBack a = some d at h2
    unfold fBack at h2
    split at h2
    · cases h2
      refine ⟨A, μ, H0, G, ρ, _, _, en, W, h1, fun A1 G1 H1 x x1 W1 r1 => ?_⟩
      cases r1 with
      | @lst _ vs ds e r =>
        refine ⟨_, _, rfl, .of (W1.same _ _ e), fun p np => ?_⟩
        have x2 := Ext.new W1.same np (.lst vs.reverse)
        exact k _ _ _ _ (x1.trans (.of x2)) (W1.ext x2) (.lst upd_same (r.reverse.mono (same_new (none_of W1.same np) _)))
    · cases h2
/-! comprehensions whose element changes cells -/
theorem Wd.updN {A : List Addr} {μ : List Cell} {G H : Hp} {x : Addr} {o : HO} (W : Wd S A μ G H) (n : G x = none) (na : x ∉ A) : Wd S A μ G (upd H x o) :=
  ⟨fun b u q => by rw [upd_ne (fun z => by rw [z, n] at q; cases q)]; exact W.same _ _ q, W.len, W.nd, fun i a c h1 h2 => by
    obtain ⟨n', ok⟩ := W.cell i a c h1 h2
    exact ⟨n', ok.up pre_rf (fun _ _ h => h) (upd_ne fun z => na (z ▸ List.mem_of_getElem? h1))⟩⟩
def zlcD (g : D → List Sl → Option (List Sl)) (te : SD D) (ρ : List Sl) : List D → List Cell → Option (List D × List Cell)
  | [], μ => some ([], μ)
  | d :: ds, μ => (g d ρ).bind fun ρ1 => (te ρ1 μ).bind fun p => (zlcD g te ρ ds p.2).bind fun r => some (p.1 :: r.1, r.2)
def zLc (di : ZL) (g : D → List Sl → Option (List Sl)) (te : SD D) (vs : List Nat) : SD D := fun ρ μ =>
  (di ρ μ).bind fun p => if decide (p.1.length ≤ szB) then (zlcD g te (wipeD ρ vs) p.1 p.2).bind fun r => some (.lst r.1, r.2) else none
theorem zlc_ok {is vs : List Nat} {di : ZL} {g : D → List Sl → Option (List Sl)} {te : SD D} (hv : ∀ i ∈ is, i ∈ vs) :
    ∀ σ H Q, zD S (zLc di g te vs) σ H Q → tLc (tIZ S di) (tG S.cls is g) (tB S.cls bYes) (zD S te) vs σ H Q := fun σ H Q ⟨A, μ, H0, G, ρ, d, μ', en, W, hd, k⟩ => by
  obtain ⟨⟨ds, μ1⟩, h1, hd⟩ := obind hd
  split at hd
  · rename_i hz
    obtain ⟨⟨r, μ2⟩, h2, hd⟩ := obind hd
    obtain ⟨rfl, rfl⟩ : D.lst r = d ∧ μ2 = μ' := by cases hd; exact ⟨rfl, rfl⟩
    refine ⟨A, μ, H0, G, ρ, ds, μ1, en, W, h1, fun J A1 G1 H1 x1 W1 wk Dl nD => ?_⟩
    have en1 := en.up x1 W1
    have ng : G1 Dl = none := none_of W1.same nD
    have nA : Dl ∉ A1 := fun z => by
      obtain ⟨⟨o, k1⟩, _⟩ := W1.cel _ z
      rw [nD] at k1; cases k1
    refine ⟨fun i m H2 => m = ds.length - i ∧ i ≤ ds.length ∧ ∃ A2 μ3 G2 ys rs rest, Ex A1 G1 H1 A2 G2 H2 ∧ Wd S A2 μ3 G2 H2 ∧ Dl ∉ A2 ∧ G2 Dl = none ∧ H2 Dl = some (.lst ys) ∧ RpAll S.cls A2 G2 ys rs ∧ rs.length ≤ i ∧ zlcD g te (wipeD ρ vs) (ds.drop i) μ3 = some (rest, μ2) ∧ rs ++ rest = r,
      ⟨ds.length, by simp, Nat.zero_le _, A1, μ1, G1, [], [], r, .of (.lay W1.same nD _), W1.updN ng nA, nA, ng, upd_same, .nil, Nat.le_refl _, h2, rfl⟩, ?_⟩
    rintro i m H2 ⟨rfl, hi, A2, μ3, G2, ys, rs, rest, x2, W2, nA2, n2, e2, r2, hrs, hl, happ⟩
    obtain ⟨wstop, wgo⟩ := wk i G2 H2 x2.g W2.same
    by_cases lt : i < ds.length
    · have gd : ds[i]? = some ds[i] := List.getElem?_eq_getElem lt
      obtain ⟨go, yl⟩ := wgo _ gd
      rw [List.drop_eq_getElem_cons lt] at hl
      unfold zlcD at hl
      obtain ⟨ρ1, g1, hl⟩ := obind hl
      obtain ⟨⟨y, μ4⟩, t1, hl⟩ := obind hl
      obtain ⟨⟨rest', μ5⟩, t3, hl⟩ := obind hl
      obtain ⟨hr, hm⟩ : y :: rest' = rest ∧ μ2 = μ5 := by cases hl; exact ⟨rfl, rfl⟩
      subst hr
      subst hm
      refine .inr ⟨go, fun H' => ∃ A2 μ3 G2 ys rs rest, Ex A1 G1 H1 A2 G2 H' ∧ Wd S A2 μ3 G2 H' ∧ Dl ∉ A2 ∧ G2 Dl = none ∧ H' Dl = some (.lst ys) ∧ RpAll S.cls A2 G2 ys rs ∧ rs.length ≤ i + 1 ∧ zlcD g te (wipeD ρ vs) (ds.drop (i + 1)) μ3 = some (rest, μ2) ∧ rs ++ rest = r,
        fun H' hN => ⟨ds.length - (i + 1), by omega, rfl, lt, hN⟩, fun x H3 hy => ?_⟩
      obtain ⟨G3, x3, r3⟩ := yl x H3 hy
      have W3 := W2.ext x3
      have en3 : En S.cls A2 H0 G3 H3 (wipe σ vs) (wipeD ρ vs) := ((en1.up x2 W2).ext x3).wipe vs
      refine ⟨A2, H0, G3, _, _, ρ1, en3, x3.s, r3.up x2.pre (fun _ _ h => h), g1, fun σ4 G4 H4 x4 en4 w4 => ⟨by rw [w4 vs hv, wipe_idem], A2, H0, G4, ρ1, true, en4, x4.s, rfl, fun G5 H5 v x5 hv5 => ?_⟩⟩
      obtain rfl : v = true := hv5
      rw [if_pos rfl]
      have x345 := (x3.trans x4).trans x5
      have W5 := W2.ext x345
      refine ⟨A2, μ3, H0, G5, ρ1, y, μ4, en4.ext x5, W5, t1, fun A6 G6 H6 yv x6 W6 r6 => ?_⟩
      have e5 : H5 Dl = some (.lst ys) := x345.h _ _ e2
      have n5 : G5 Dl = none := x345.f _ _ e2 n2
      have nA6 : Dl ∉ A6 := fun z => by
        obtain ⟨nw, q1, q2⟩ := x6.a
        rw [q1] at z
        rcases List.mem_append.mp z with z | z
        · exact nA2 z
        · rw [q2 _ z] at e5; cases e5
      have e6 : H6 Dl = some (.lst ys) := x6.h _ _ nA2 e5
      have n6 : G6 Dl = none := x6.f _ _ e5 n5
      have X6 := (x2.trans (.of x345)).trans x6
      have hlen : ys.length < sizeLine := by
        rw [r2.len]
        have hz' : ds.length ≤ szB := of_decide_eq_true hz
        exact sz_lt (decide_eq_true (show rs.length ≤ szB by omega))
      refine ⟨ys, e6, hlen, A6, μ4, G6, ys ++ [yv], rs ++ [y], rest', ⟨X6.a, X6.g, fun b o nb q => ?_, X6.f, fun b o q => ?_⟩, W6.updN n6 nA6, nA6, n6, upd_same, (((r2.mono x345.g).up x6.pre x6.g).append (.cons r6 .nil)), ?_, t3, ?_⟩
      · rw [upd_ne (ne_of_none q nD)]; exact X6.h _ _ nb q
      · rw [upd_ne (ne_of_none q nD)]; exact X6.l _ _ q
      · rw [List.length_append, List.length_singleton]; omega
      · rw [List.append_assoc]; exact happ
    · have ei : i = ds.length := by omega
      subst ei
      rw [List.drop_length] at hl
      cases hl
      rw [List.append_nil] at happ
      subst happ
      have sg : Same G2 (upd G2 Dl (.lst ys)) := same_new n2 _
      refine .inl ⟨wstop rfl, k A2 (upd G2 Dl (.lst ys)) H2 _ (x1.trans ⟨x2.a, x2.g.trans sg, x2.h, fun b o q q' => ?_, x2.l⟩) ⟨fun b o q => ?_, W2.len, W2.nd, fun j a c q1 q2 => ?_⟩ (.lst upd_same (r2.mono sg))⟩
      · rw [upd_ne (ne_of_none q nD)]; exact x2.f _ _ q q'
      · by_cases z : b = Dl
        · subst z; rw [upd_same] at q; cases q; exact e2
        · rw [upd_ne z] at q; exact W2.same _ _ q
      · obtain ⟨n', ok⟩ := W2.cell j a c q1 q2
        refine ⟨?_, ok.up pre_rf sg rfl⟩
        rw [upd_ne (fun z => by subst z; exact nA2 (List.mem_of_getElem? q1))]; exact n'
  · cases hd
theorem zn_lc {elt tg iter : Expr} {scope : Scope} {own : List (Str × Nat)} {is : List Nat} {di : ZL} {g : D → List Sl → Option (List Sl)} {te : SD D} (hc : X.calm = true) (hN : X.N.Nodup) (hi : PI X tg iter (tIZ S di)) (ok : BlkOk X.N X.env.scope scope own)
    (hg : ∀ (s : Shared) (H : Hp) (A : Addr) (cl : List (Str × Addr)) (fp : List Addr), PG (X.blk s H scope (compEnvC scope cl A X.env) fp) tg (tG S.cls is g))
    (he : ∀ (s : Shared) (H : Hp) (A : Addr) (cl : List (Str × Addr)) (fp : List Addr), PE (X.blk s H scope (compEnvC scope cl A X.env) fp) elt (zD S te)) (hv : ∀ i ∈ is, i ∈ own.map (·.2) := by decide) (hs : ∀ x, foldedSetIterable iter X.env x = pure x := by intro _; rfl) :
    PE X (.ListComp elt [⟨tg, iter, [], 0⟩] scope pos) (zD S (zLc di g te (own.map (·.2)))) :=
  pe_to (pe_lc hc hN hi ok hg (fun _ _ _ _ _ => dts_nil) he hs) (zlc_ok hv)
end
end DN

set_option maxHeartbeats 1000000
/-! Numbers: own operators, isinstance, made -/
namespace DN
open PySem PySem.Spec PyProof.Rows L2 KG
theorem cmpBack_of {Q : Value → Shared → Prop} {v : Value} {s : Shared} (n : v ≠ .notImplemented) (q : Q v s) : PySem.W.CmpBack Q v s := by
  unfold PySem.W.CmpBack
  split
  · exact n rfl
  · exact q
/-- nothing that stands for it is NotImplemented -/
def Plain (v : V) : Prop := ∀ u, RelV v u → u ≠ Value.notImplemented
theorem plain_rp {C : Addr} {A : List Addr} {G : Hp} {v : V} {d : D} (r : Rp C A G v d) : Plain v := by
  intro u h e
  subst e
  cases r with
  | non => cases (show Value.notImplemented = Value.none from h)
  | bl b => cases (show Value.notImplemented = Value.bool b from h)
  | int i => obtain ⟨t, q⟩ := (show ∃ t, Value.notImplemented = Value.int i t from h); cases q
  | str x => obtain ⟨t, q⟩ := (show ∃ t, Value.notImplemented = Value.str x t from h); cases q
  | tup _ _ => cases (show Value.notImplemented = Value.ref _ from h)
  | lst _ _ => cases (show Value.notImplemented = Value.ref _ from h)
  | num _ _ _ => cases (show Value.notImplemented = Value.ref _ from h)
  | ref _ => cases (show Value.notImplemented = Value.ref _ from h)
/-- the class's own method m, as an operator -/
structure OpM (K : PySem.W.Frag) (C : Addr) (m : Str) (f : Addr) : Prop where
  at_ : PySem.W.findIn K (.ref C) m = some (some (.ref f))
  fn : PySem.W.isFn K (.ref f) = true
section
variable {X : Cx} {CX : CXT} {C f : Addr} {fd : FuncData} {ps : List Str} {k : Nat} {sp : Sp} {E : XK}
def rOwn (C : Addr) (sp : Sp) (E : XK) : R2 := fun x y H Q => ∃ a b dx dy fs gs, x = .ref a ∧ y = .ref b ∧ H a = some (.ins C dx fs) ∧ H b = some (.ins C dy gs) ∧ sp [.ref a, .ref b] H (fun v H' => Plain v ∧ Q v H') E
theorem run_own {pins : List (Addr × Obj)} {s : Shared} {σ : L2.St} {H : Hp} {Q : VK} {us : List Value} {vs : List V} (F : FnOk X.prog X.w X.K X.mg X.base CX k f fd ps sp) (hr : Room k X.A) (hb : Binds X.K fd ps []) (hx : Passes CX X E)
    (I : Inv X pins σ H s) (r : Vals vs us) (h : sp vs H (fun v H' => Plain v ∧ Q v H') E) : wpAny (model X.prog X.w) X.A (call (.ref f) us) (PySem.W.CmpBack (EP X pins σ Q)) X.xe s := by
  have := run_fn (Q := fun v H' => Plain v ∧ Q v H') F hr hb .nil hx I r (by rw [List.append_nil]; exact h)
  refine wpAny_mono this (fun u s' hq => ?_) fun _ _ e => e
  obtain ⟨v, H', I', rv, pl, q⟩ := hq
  exact cmpBack_of (pl u rv) ⟨v, H', I', rv, q⟩
theorem op_own {op : Operator} (F : FnOk X.prog X.w X.K X.mg X.base CX k f fd ps sp) (hr : Room k X.A) (hc : PySem.W.selfFirst X.K C = true) (hm : OpM X.K C (PySem.dunder op.info.2) f) (hb : Binds X.K fd ps []) (hx : Passes CX X E) : OpR X (binaryOp op) (rOwn C sp E) := by
  intro pins s σ H x y v u Q I rx ry h
  obtain ⟨a, b, dx, dy, fs, gs, rfl, rfl, ha, hb', hs⟩ := h
  cases rx
  cases ry
  obtain ⟨mA, J, _⟩ := ins_get I.hok ha
  obtain ⟨mB, J', _⟩ := ins_get I.hok hb'
  obtain ⟨od, J, _⟩ := J.look
  obtain ⟨od', J', _⟩ := J'.look
  obtain ⟨m, hF⟩ := I.fr
  exact PySem.W.binop_K hF I.ok.mod.kin J J'.type hc hm.at_ hm.fn (run_own F hr hb hx I (vs := [V.ref a, V.ref b]) (us := [Value.ref a, Value.ref b]) (.cons rfl (.cons rfl .nil)) hs)
theorem cmp_own {op : CmpOp} (hop : compareOp op = richCompare op) (F : FnOk X.prog X.w X.K X.mg X.base CX k f fd ps sp) (hr : Room k X.A) (hm : OpM X.K C (cmpInfo op).2.1 f) (hb : Binds X.K fd ps []) (hx : Passes CX X E) : OpR X (compareOp op) (rOwn C sp E) := by
  intro pins s σ H x y v u Q I rx ry h
  obtain ⟨a, b, dx, dy, fs, gs, rfl, rfl, ha, hb', hs⟩ := h
  cases rx
  cases ry
  obtain ⟨mA, J, _⟩ := ins_get I.hok ha
  obtain ⟨mB, J', _⟩ := ins_get I.hok hb'
  obtain ⟨od, J, _⟩ := J.look
  obtain ⟨od', J', _⟩ := J'.look
  obtain ⟨m, hF⟩ := I.fr
  rw [hop]
  exact PySem.W.cmp_K (tb := .ref C) hr.units0 hF I.ok.mod.kin J J'.type (by simp [PySem.W.notFirst]) hm.at_ hm.fn (run_own F hr hb hx I (vs := [V.ref a, V.ref b]) (us := [Value.ref a, Value.ref b]) (.cons rfl (.cons rfl .nil)) hs)
theorem un_own (F : FnOk X.prog X.w X.K X.mg X.base CX k f fd ps sp) (hr : Room k X.A) (hm : OpM X.K C "__neg__" f) (hb : Binds X.K fd ps []) (hx : Passes CX X E) :
    UnR X (unaryOp .USub) (fun x H Q => ∃ a dx fs, x = .ref a ∧ H a = some (.ins C dx fs) ∧ sp [.ref a] H Q E) := by
  intro pins s σ H x v Q I rx h
  obtain ⟨a, dx, fs, rfl, ha, hs⟩ := h
  cases rx
  obtain ⟨mA, J, _⟩ := ins_get I.hok ha
  obtain ⟨od, J, _⟩ := J.look
  obtain ⟨m, hF⟩ := I.fr
  exact PySem.W.ksp_neg hF I.ok.mod.kin J hm.at_ hm.fn (run_fn F hr hb .nil hx I (vs := [V.ref a]) (us := [Value.ref a]) (.cons rfl .nil) (by simpa using hs))
end
section
variable {X : Cx} {CX : CXT} {C f : Addr} {fd : FuncData} {ps : List Str} {k : Nat} {E : XK} {pos : Pos}
def isNum : D → Bool
  | .num _ _ => true
  | _ => false
theorem num_ins {A : List Addr} {G : Hp} {x : V} {d : D} (h : isNum d = true) (r : Rp C A G x d) : ∃ a dx fs, x = .ref a ∧ G a = some (.ins C dx fs) := by
  cases d with
  | num t e => obtain ⟨a, dx, vt, ve, h1, h2, _⟩ := num_fs r; exact ⟨a, dx, _, h1, h2⟩
  | _ => cases h
/-- a op b of Numbers -/
def d2N (g : List D → Option D) (da db : List Sl → Option D) : List Sl → Option D := fun ρ => (da ρ).bind fun a => (db ρ).bind fun b => if isNum a && isNum b then g [a, b] else none
theorem id2N {g : List D → Option D} {da db : List Sl → Option D} : ∀ σ H Q, tD C (d2N g da db) σ H Q → tOp (rOwn C (SpD C g) E) (tD C da) (tD C db) σ H Q := fun σ H Q ⟨A, H0, G, ρ, d, en, sm, hd, k⟩ => by
  obtain ⟨a, h1, hd⟩ := obind hd
  obtain ⟨b, h2, hd⟩ := obind hd
  split at hd
  · rename_i hn
    rw [Bool.and_eq_true] at hn
    refine ⟨A, H0, G, ρ, a, en, sm, h1, fun G1 H1 x x1 r1 => ⟨A, H0, G1, ρ, b, en.ext x1, x1.s, h2, fun G2 H2 y x2 r2 => ?_⟩⟩
    have r1' := r1.mono x2.g
    obtain ⟨p, dp, fp, rfl, gp⟩ := num_ins hn.1 r1'
    obtain ⟨q, dq, fq, rfl, gq⟩ := num_ins hn.2 r2
    exact ⟨p, q, dp, dq, fp, fq, rfl, rfl, x2.s _ _ gp, x2.s _ _ gq, A, G2, [a, b], d, ((en.ext x1).ext x2).cel, x2.s, .cons r1' (.cons r2 .nil), hd, fun G' H' v x3 r3 => ⟨plain_rp r3, k G' H' v ((x1.trans x2).trans x3) r3⟩⟩
  · cases hd
theorem dn_opN {op : Operator} {a b : Expr} {g : List D → Option D} {da db : List Sl → Option D} (F : FnOk X.prog X.w X.K X.mg X.base CX k f fd ps (SpD C g)) (hr : Room k X.A) (hc : PySem.W.selfFirst X.K C = true) (hm : OpM X.K C (PySem.dunder op.info.2) f) (hb : Binds X.K fd ps []) (hx : Passes CX X E)
    (ha : PE X a (tD C da)) (hb' : PE X b (tD C db)) : PE X (.BinOp a op b pos) (tD C (d2N g da db)) := pe_to (pe_op (op_own F hr hc hm hb hx) ha hb') id2N
theorem dn_eqN {a b : Expr} {g : List D → Option D} {da db : List Sl → Option D} (F : FnOk X.prog X.w X.K X.mg X.base CX k f fd ps (SpD C g)) (hr : Room k X.A) (hm : OpM X.K C "__eq__" f) (hb : Binds X.K fd ps []) (hx : Passes CX X E)
    (ha : PE X a (tD C da)) (hb' : PE X b (tD C db)) : PE X (.Compare a [.Eq] [b] pos) (tD C (d2N g da db)) := pe_to (pe_cmpR (cmp_own (op := .Eq) rfl F hr hm hb hx) ha hb' (nomark _)) id2N
theorem dt_eqN {a b : Expr} {g : List D → Option D} {da db : List Sl → Option D} (F : FnOk X.prog X.w X.K X.mg X.base CX k f fd ps (SpD C g)) (hr : Room k X.A) (hm : OpM X.K C "__eq__" f) (hb : Binds X.K fd ps []) (hx : Passes CX X E)
    (ha : PE X a (tD C da)) (hb' : PE X b (tD C db)) : PT X (.Compare a [.Eq] [b] pos) (tB C (dAsB (d2N g da db))) := pt_to (pt_cmpR (cmp_own (op := .Eq) rfl F hr hm hb hx) ha hb' (nomark _)) (test_of id2N)
def d1N (g : List D → Option D) (da : List Sl → Option D) : List Sl → Option D := fun ρ => (da ρ).bind fun a => if isNum a then g [a] else none
theorem dn_negN {a : Expr} {g : List D → Option D} {da : List Sl → Option D} (F : FnOk X.prog X.w X.K X.mg X.base CX k f fd ps (SpD C g)) (hr : Room k X.A) (hm : OpM X.K C "__neg__" f) (hb : Binds X.K fd ps []) (hx : Passes CX X E)
    (ha : PE X a (tD C da)) : PE X (.UnaryOp .USub a pos) (tD C (d1N g da)) := pe_to (pe_un (un_own F hr hm hb hx) ha) fun σ H Q ⟨A, H0, G, ρ, d, en, sm, hd, k⟩ => by
  obtain ⟨a, h1, hd⟩ := obind hd
  split at hd
  · rename_i hn
    refine ⟨A, H0, G, ρ, a, en, sm, h1, fun G1 H1 x x1 r1 => ?_⟩
    obtain ⟨p, dp, fp, rfl, gp⟩ := num_ins hn r1
    exact ⟨p, dp, fp, rfl, x1.s _ _ gp, A, G1, [a], d, (en.ext x1).cel, x1.s, .cons r1 .nil, hd, fun G' H' v x3 r3 => k G' H' v (x1.trans x3) r3⟩
  · cases hd
/-! isinstance -/
/-- what isinstance asks of the class Number -/
structure IsT (K : PySem.W.Frag) (C : Addr) : Prop where
  cl : Cls K C
  ha : PySem.W.findIn K (.ref C) "__class__" = some (some (.builtin "object.__class__"))
  hn : PySem.W.specialIn K (.builtin "object.__class__") "__get__" = some (some (.builtin "getset_descriptor.__get__"))
  ht : PySem.W.takesIn K (.builtin "object.__class__") = some true
  hm : PySem.W.mroIn K C (.type "object") = some true
  k1 : PySem.W.kitOne K (.ref C) (.ref C) = some true
  k0 : ∀ T ∈ ["NoneType", "bool", "int", "str", "tuple", "list"], PySem.W.kitOne K (.type T) (.ref C) = some false
def fIsNum : D → Option D
  | .num _ _ => some (.bl true)
  | .ref _ => none
  | _ => some (.bl false)
theorem dn_isNum {a : Expr} {x : Str} {p p2 : Pos} {da : List Sl → Option D} (T : IsT X.K C) (hg : Gl X "isinstance") (hm : X.mg "isinstance" = none) (hgx : Gl X x) (hmx : X.mg x = some (.ref C)) (ha : PE X a (tD C da)) (hdb : (x == ("__debug__" : Str)) = false := by decide)
    (he : starEach [a, .Name x p2] X.env = (false, eval a X.env) :: starEach [.Name x p2] X.env := by rfl) (he2 : starEach [.Name x p2] X.env = (false, eval (.Name x p2) X.env) :: starEach [] X.env := by rfl) (hpl : (backTo pos (starEach [.Name x p2] X.env)).any (·.1) = false := by rfl) :
    PE X (.Call (.Name "isinstance" p) [a, .Name x p2] [] pos) (tD C (d1 fIsNum da)) :=
  pe_to (pe_callB call_isi hg hm (by decide +kernel) (pa_cons ha (pa_cons (pe_glob (v := .ref C) hgx hmx rfl hdb) pa_nil he2) he) (by decide) (by decide) he hpl) fun σ H Q ⟨A, H0, G, ρ, z, en, sm, hd, k⟩ => by
    obtain ⟨d, h1, hd⟩ := obind hd
    refine ⟨A, H0, G, ρ, d, en, sm, h1, fun G1 H1 v x1 r1 => ?_⟩
    have fin : ∀ (t : Value) (b : Bool), TyX X.K H1 v t → PySem.W.kitOne X.K t (.ref C) = some b → z = .bl b → rIsi X.K [v, .ref C] H1 Q := fun t b h1 h2 e => by
      subst e
      exact ⟨v, .ref C, t, .ref C, b, rfl, .own C, h1, h2, k G1 H1 _ x1 (.bl b)⟩
    cases d with
    | non => cases r1; exact fin _ false (.base .non) (T.k0 _ (by simp)) (Option.some.inj hd).symm
    | bl b => cases r1; exact fin _ false (.base (.bl _)) (T.k0 _ (by simp)) (Option.some.inj hd).symm
    | int i => cases r1; exact fin _ false (.base (.int _)) (T.k0 _ (by simp)) (Option.some.inj hd).symm
    | str i => cases r1; exact fin _ false (.base (.str _)) (T.k0 _ (by simp)) (Option.some.inj hd).symm
    | tup ds => cases r1 with | tup e r => exact fin _ false (.base (.tup (x1.s _ _ e))) (T.k0 _ (by simp)) (Option.some.inj hd).symm
    | lst ds => cases r1 with | lst e r => exact fin _ false (.base (.lst (x1.s _ _ e))) (T.k0 _ (by simp)) (Option.some.inj hd).symm
    | num t e =>
      obtain ⟨b, dx, vt, ve, rfl, g, _⟩ := num_fs r1
      exact fin _ true (.base (.ins (x1.s _ _ g) T.cl T.ha T.hn T.ht T.hm)) T.k1 (Option.some.inj hd).symm
    | ref i => cases hd
/-- isinstance(a, tuple) -/
def fIsTup : D → Option D
  | .num _ _ => none
  | .ref _ => none
  | .tup _ => some (.bl true)
  | _ => some (.bl false)
theorem dn_isTup {a : Expr} {p p2 : Pos} {da : List Sl → Option D} (hg : Gl X "isinstance") (hm : X.mg "isinstance" = none) (hgx : Gl X "tuple") (hmx : X.mg "tuple" = none) (ha : PE X a (tD C da))
    (he : starEach [a, .Name "tuple" p2] X.env = (false, eval a X.env) :: starEach [.Name "tuple" p2] X.env := by rfl) (he2 : starEach [.Name "tuple" p2] X.env = (false, eval (.Name "tuple" p2) X.env) :: starEach [] X.env := by rfl) (hpl : (backTo pos (starEach [.Name "tuple" p2] X.env)).any (·.1) = false := by rfl) :
    PE X (.Call (.Name "isinstance" p) [a, .Name "tuple" p2] [] pos) (tD C (d1 fIsTup da)) :=
  pe_to (pe_callB call_isi hg hm (by decide +kernel) (pa_cons ha (pa_cons (pe_bltn (v := .ty "tuple") hgx hmx (by decide +kernel) rfl) pa_nil he2) he) (by decide) (by decide) he hpl) fun σ H Q ⟨A, H0, G, ρ, z, en, sm, hd, k⟩ => by
    obtain ⟨d, h1, hd⟩ := obind hd
    refine ⟨A, H0, G, ρ, d, en, sm, h1, fun G1 H1 v x1 r1 => ?_⟩
    have fin : ∀ (t : String) (b : Bool), TyX X.K H1 v (.type t) → kitB t "tuple" = some b → z = .bl b → rIsi X.K [v, .ty "tuple"] H1 Q := fun t b h1 h2 e => by
      subst e
      exact ⟨v, .ty "tuple", .type t, .type "tuple", b, rfl, .ty "tuple", h1, kit_ty h2, k G1 H1 _ x1 (.bl b)⟩
    cases d with
    | non => cases r1; exact fin _ false (.base .non) (by decide +kernel) (Option.some.inj hd).symm
    | bl b => cases r1; exact fin _ false (.base (.bl _)) (by decide +kernel) (Option.some.inj hd).symm
    | int i => cases r1; exact fin _ false (.base (.int _)) (by decide +kernel) (Option.some.inj hd).symm
    | str i => cases r1; exact fin _ false (.base (.str _)) (by decide +kernel) (Option.some.inj hd).symm
    | tup ds => cases r1 with | tup e r => exact fin _ true (.base (.tup (x1.s _ _ e))) (by decide +kernel) (Option.some.inj hd).symm
    | lst ds => cases r1 with | lst e r => exact fin _ false (.base (.lst (x1.s _ _ e))) (by decide +kernel) (Option.some.inj hd).symm
    | num t e => cases hd
    | ref i => cases hd
end
/-! a Number that is made -/
mutual
def noRef : D → Bool
  | .tup ds => noRefs ds
  | .lst ds => noRefs ds
  | .num t e => noRef t && noRef e
  | .ref _ => false
  | _ => true
def noRefs : List D → Bool
  | [] => true
  | d :: ds => noRef d && noRefs ds
end
mutual
theorem Rp.noRef {C : Addr} {A A' : List Addr} {G : Hp} : ∀ {d : D} {v : V}, Rp C A G v d → DN.noRef d = true → Rp C A' G v d
  | .non, _, h, _ => by cases h; exact .non
  | .bl b, _, h, _ => by cases h; exact .bl b
  | .int i, _, h, _ => by cases h; exact .int i
  | .str x, _, h, _ => by cases h; exact .str x
  | .tup ds, _, h, n => by cases h with | tup e r => exact .tup e (RpAll.noRef r (by simpa [DN.noRef] using n))
  | .lst ds, _, h, n => by cases h with | lst e r => exact .lst e (RpAll.noRef r (by simpa [DN.noRef] using n))
  | .num t e, _, h, n => by
    have n' : DN.noRef t = true ∧ DN.noRef e = true := by simpa [DN.noRef] using n
    cases h with | num e1 r1 r2 => exact .num e1 (Rp.noRef r1 n'.1) (Rp.noRef r2 n'.2)
  | .ref i, _, _, n => by simp [DN.noRef] at n
theorem RpAll.noRef {C : Addr} {A A' : List Addr} {G : Hp} : ∀ {ds : List D} {vs : List V}, RpAll C A G vs ds → DN.noRefs ds = true → RpAll C A' G vs ds
  | [], _, h, _ => by cases h; exact .nil
  | d :: ds, _, h, n => by
    have n' : DN.noRef d = true ∧ DN.noRefs ds = true := by simpa [DN.noRefs] using n
    cases h with | cons r1 r2 => exact .cons (Rp.noRef r1 n'.1) (RpAll.noRef r2 n'.2)
end
/-- the Number that a cell is -/
def asNum (t : Nat) (i : Nat) (μ : List Cell) : Option D := match μ[i]? with
  | some (.ins u [("tower", a), ("element", b)]) => if u == t && noRef a && noRef b then some (.num a b) else none
  | _ => none
theorem asNum_ok {t i : Nat} {μ : List Cell} {d : D} (h : asNum t i μ = some d) : ∃ a b, μ[i]? = some (.ins t [("tower", a), ("element", b)]) ∧ noRef a = true ∧ noRef b = true ∧ d = .num a b := by
  unfold asNum at h
  split at h
  · rename_i u a b e
    obtain ⟨hc, rfl⟩ := oif h
    simp only [Bool.and_eq_true, beq_iff_eq] at hc
    obtain ⟨⟨rfl, h1⟩, h2⟩ := hc
    exact ⟨a, b, e, h1, h2, rfl⟩
  · cases h
/-- a cell that no one else can reach stands for good -/
theorem asNum_frz {S : CS} {t : Nat} (ht : S.cl t = S.cls) {A A' : List Addr} {i : Nat} {x : Addr} {μ : List Cell} {G H G' H' : Hp} {d : D} (h : asNum t i μ = some d) (W : Wd S A' μ G' H') (hx : A'[i]? = some x) (nx : H x = none)
    (xg : Same G G') (xh : ∀ b o, H b = some o → H' b = some o) (xf : ∀ b o, H b = some o → G b = none → G' b = none) : ∃ G'', Ext G H G'' H' ∧ Rp S.cls A G'' (.ref x) d := by
  obtain ⟨a, b, e, n1, n2, rfl⟩ := asNum_ok h
  obtain ⟨gx, dx, us, ex, rf⟩ := W.cell _ _ _ hx e
  cases rf with
  | cons r1 rf => cases rf with
    | cons r2 rf => cases rf with
      | nil =>
        rename_i va vb
        have sg : Same G' (upd G' x (.ins (S.cl t) dx [("tower", va), ("element", vb)])) := same_new gx _
        refine ⟨upd G' x (.ins (S.cl t) dx [("tower", va), ("element", vb)]), ⟨xg.trans sg, fun c o q => ?_, xh, fun c o q q' => ?_⟩, .num (dx := dx) (by rw [← ht]; exact upd_same) ((r1.mono sg).noRef n1) ((r2.mono sg).noRef n2)⟩
        · by_cases z : c = x
          · subst z; rw [upd_same] at q; cases q; exact ex
          · rw [upd_ne z] at q; exact W.same _ _ q
        · rw [upd_ne (ne_of_none q nx)]; exact xf _ _ q q'
section
variable {X : Cx} {CX : CXT} {S : CS} {f : Addr} {fd : FuncData} {ps : List Str} {k : Nat} {E : XK} {pos p : Pos} {x : Str} {e : Expr} {es : List Expr}
def dMakeN (t : Nat) (g : FnS) (das : List Sl → Option (List D)) (dvs : List D) : List Sl → Option D := fun ρ => (das ρ).bind fun ds => if noRefs (ds ++ dvs) then (g (.ref 0 :: (ds ++ dvs)) [.ins t []]).bind fun r => match r.1 with
    | .non => asNum t 0 r.2
    | _ => none
  else none
theorem dn_makeN {t : Nat} {g : FnS} {das : List Sl → Option (List D)} {dvs : List D} {dv : List V} {dval : List Value} (ht : S.cl t = S.cls) (M : Mk X.K (S.cl t) f) (F : FnOk X.prog X.w X.K X.mg X.base CX k f fd ps (SpS S g)) (hr : Room (k + 1) X.A) (hg : Gl X x) (hm : X.mg x = some (.ref (S.cl t)))
    (hb : Binds X.K fd ps dval) (hdv : Vals dv dval) (hdr : ∀ A G, RpAll S.cls A G dv dvs) (hx : Passes CX X E)
    (ha : PA X (e :: es) (tA S.cls das)) (hdb : (x == ("__debug__" : Str)) = false := by decide) (he : starEach (e :: es) X.env = (false, eval e X.env) :: starEach es X.env := by rfl) (hpl : (backTo pos (starEach es X.env)).any (·.1) = false := by rfl) :
    PE X (.Call (.Name x p) (e :: es) [] pos) (tD S.cls (dMakeN t g das dvs)) := pe_to (pe_make M F hr hg hm hb hdv hx ha hdb he hpl) fun σ H Q ⟨A, H0, G, ρ, d, en, sm, hd, kk⟩ => by
  obtain ⟨ds, h1, hd⟩ := obind hd
  split at hd
  · rename_i hn
    obtain ⟨⟨r, μ'⟩, h2, hd⟩ := obind hd
    simp only at hd
    split at hd
    · refine ⟨A, H0, G, ρ, ds, en, sm, h1, fun G1 H1 vs x1 r1 => fun a dx ha hdx ne => ?_⟩
      have hH : ∀ b o, H1 b = some o → (upd (upd H1 dx (.own a)) a (.ins (S.cl t) dx [])) b = some o := fun b o h => by
        rw [upd_ne (ne_of_none h ha), upd_ne (ne_of_none h hdx)]; exact h
      have W0 : Wd S [] [] G1 H1 := ⟨x1.s, rfl, List.nodup_nil, fun i a c h => by simp at h⟩
      obtain ⟨W2, x2⟩ := W0.add (c := .ins t []) ha hH ⟨dx, [], upd_same, .nil⟩
      have ra : RpAll S.cls ([] ++ [a]) G1 (vs ++ dv) (ds ++ dvs) := (r1.append (hdr A G1)).noRef hn
      refine ⟨[] ++ [a], [] ++ [.ins t []], G1, _, .non, μ', W2, .cons (.ref rfl) ra, h2, fun A' G' H' v x3 W3 r3 => ?_⟩
      cases r3
      obtain ⟨nw, e1⟩ := x3.pre
      have x4 := x2.trans x3
      obtain ⟨G'', xx, rr⟩ := asNum_frz (A := A) ht hd W3 (get_pre e1 rfl) ha x4.g (fun b o q => x4.h b o (fun z => by cases z) q) x4.f
      exact ⟨rfl, kk G'' H' _ (x1.trans xx) rr⟩
    · cases hd
  · cases hd
/-- a def that makes a Number and gives it -/
def frz (t : Nat) (g : FnS) : List D → Option D := fun ds => if noRefs ds then (g ds []).bind fun r => match r.1 with
    | .ref i => asNum t i r.2
    | _ => none
  else none
theorem spD_frz {t : Nat} (ht : S.cl t = S.cls) {g : FnS} {P : Program} {w : World} {K : PySem.W.Frag} {mg : Str → Option Value} {base : Heap} (F : FnOk P w K mg base CX k f fd ps (SpS S g)) : FnOk P w K mg base CX k f fd ps (SpD S.cls (frz t g)) := F.imp fun vs H Q E ⟨A, G, ds, d, cl, sm, r, hd, kk⟩ => by
  unfold frz at hd
  split at hd
  · rename_i hn
    obtain ⟨⟨q, μ'⟩, h2, hd⟩ := obind hd
    simp only at hd
    split at hd
    · rename_i i
      have W0 : Wd S [] [] G H := ⟨sm, rfl, List.nodup_nil, fun i a c h => by simp at h⟩
      refine ⟨[], [], G, ds, _, μ', W0, r.noRef hn, h2, fun A' G' H' v x3 W3 r3 => ?_⟩
      cases r3 with
      | @ref i a hi =>
        obtain ⟨nw, e1, e2⟩ := x3.a
        obtain ⟨G'', xx, rr⟩ := asNum_frz (A := A) ht hd W3 hi (e2 a (by rw [List.nil_append] at e1; rw [← e1]; exact List.mem_of_getElem? hi)) x3.g (fun b o q => x3.h b o (fun z => by cases z) q) x3.f
        exact kk G'' H' _ xx rr
    · cases hd
  · cases hd
end
end DN

/-! d.get(text), d.get(text, x): d a dict of the module with texts for keys and ints for values -/
namespace KG
open PySem PySem.Spec PyProof.Rows L2
inductive EsAt (P : Params) : List DictEntry → List (Str × Int) → Prop
  | nil : EsAt P [] []
  | cons {k : Str} {v : Int} {t u : Tok} {l : List DictEntry} {r : List (Str × Int)} : EsAt P l r → EsAt P (⟨PyData.keyHash P k, .str k t, .int v u⟩ :: l) ((k, v) :: r)
def KDi (K : PySem.W.Frag) (w : World) (d : Addr) (kvs : List (Str × Int)) : Prop := ∃ es n, K.lookup d = some ⟨.type "dict", none, .dict es n, #[]⟩ ∧ EsAt w.params es.toList kvs ∧ (d == sysModules) = false
theorem EsAt.lit {P : Params} {l : List DictEntry} {r : List (Str × Int)} (h : EsAt P l r) : PySem.W.KeysLit P l := by
  induction h with
  | nil => trivial
  | cons _ ih => exact ⟨⟨_, _, rfl, rfl⟩, ih⟩
theorem EsAt.find {P : Params} {l : List DictEntry} {r : List (Str × Int)} (h : EsAt P l r) (z : Str) : ((r.lookup z = none ∧ (l.find? fun e => Value.isStrOf z e.key).map (·.val) = none) ∨ ∃ v u, r.lookup z = some v ∧ (l.find? fun e => Value.isStrOf z e.key).map (·.val) = some (.int v u)) := by
  induction h with
  | nil => exact .inl ⟨rfl, rfl⟩
  | @cons k v t u l r _ ih =>
    by_cases e : k = z
    · refine .inr ⟨v, u, ?_, ?_⟩
      · rw [List.lookup_cons, show (z == k) = true by rw [e]; exact beq_self_eq_true z]
      · rw [List.find?_cons, show Value.isStrOf z (Value.str k t) = true from by show (k == z) = true; rw [e]; exact beq_self_eq_true z]; rfl
    · have e1 : (z == k) = false := by rw [beq_eq_false_iff_ne]; exact fun q => e q.symm
      have e2 : (k == z) = false := by rw [beq_eq_false_iff_ne]; exact e
      rw [List.lookup_cons, e1, List.find?_cons, show Value.isStrOf z (Value.str k t) = false from e2]
      exact ih
def kdOr (kvs : List (Str × Int)) (z : Str) (d : V) : V := match kvs.lookup z with
  | some v => .int v
  | none => d
theorem KDi.found {K : PySem.W.Frag} {w : World} {d : Addr} {kvs : List (Str × Int)} (h : KDi K w d kvs) {X : Cx} {pins : List (Addr × Obj)} {σ : L2.St} {H : Hp} {s : Shared} (I : Inv X pins σ H s) (eK : X.K = K) (eW : X.w = w) (z : Str) :
    (d == sysModules) = false ∧ ∃ f, s.heap.MapOf (strKind X.prog X.w) d f ∧ (∀ (b : Value), Value.ref d = b → s.TypeIs b "dict" ∧ ∀ a, b = .ref a → ∃ ob, s.heap.get? a = some ob ∧ ob.dict = none) ∧ ∀ (df : V) (dv : Value), RelV df dv → RelV (kdOr kvs z df) ((f z).getD dv) := by
  subst eK eW
  obtain ⟨es, n, hl, he, low⟩ := h
  have hm := PySem.W.mapOf_K (prog := X.prog) (w := X.w) I.kIn hl he.lit
  refine ⟨low, _, hm, ?_, ?_⟩
  · rintro b rfl
    refine ⟨hm.typeIs, ?_⟩
    rintro a e
    cases e
    exact ⟨_, I.kIn _ _ hl, rfl⟩
  · intro df dv hd
    show RelV (kdOr kvs z df) (((es.find? fun e => Value.isStrOf z e.key).map (·.val)).getD dv)
    rw [← Array.find?_toList]
    unfold kdOr
    rcases he.find z with ⟨e1, e2⟩ | ⟨v, u, e1, e2⟩
    · rw [e1, e2]; exact hd
    · rw [e1, e2]; exact ⟨u, rfl⟩
def tKGet1 (K : PySem.W.Frag) (w : World) (td ty : TE) : TE := fun σ H Q => td σ H fun x H1 => ∃ a kvs, x = .ref a ∧ KDi K w a kvs ∧ ty σ H1 fun y H2 => ∃ z, y = .str z ∧ Q (kdOr kvs z .non) H2
def tKGet2 (K : PySem.W.Frag) (w : World) (td ty tx : TE) : TE := fun σ H Q => td σ H fun x H1 => ∃ a kvs, x = .ref a ∧ KDi K w a kvs ∧ ty σ H1 fun y H2 => tx σ H2 fun d H3 => ∃ z, y = .str z ∧ Q (kdOr kvs z d) H3
section
variable {X : Cx} {o e f : Expr} {apos cpos : Pos} {td ty tx : TE}
theorem pe_kget1 (ho : PE X o td) (he : PE X e ty) (m : M1 X o "get" apos e cpos) : PE X (.Call (.Attribute o "get" apos) [e] [] cpos) (tKGet1 X.K X.w td ty) := by
  constructor
  intro pins s σ H Q I h
  refine wpAny_Call_method m.base m.few m.line PySem.F.plainAttrs_dict PySem.F.slot_dict_get PySem.F.type_dict_get (thn (ho.run pins s σ H _ I h) ?_)
  rintro u s1 ⟨x, H1, I1, rx, a, kvs, rfl, d, q1⟩
  cases (show u = Value.ref a from rx)
  obtain ⟨_, _, _, t1, _⟩ := d.found I1 rfl rfl ""
  obtain ⟨t1, t2⟩ := t1 _ rfl
  refine ⟨t1, t2, ?_⟩
  rw [m.trees]
  refine Calls.callWith_builtin rfl (Calls.evalArgs_plain (Calls.spliced_cons (thn (he.run pins s1 σ H1 _ I1 q1) ?_)))
  rintro iv s2 ⟨y, H2, I2, ry, z, rfl, q2⟩
  refine Calls.spliced_nil ?_
  obtain ⟨t, rfl⟩ := ry
  obtain ⟨low, f, hm, _, hv⟩ := d.found I2 rfl rfl z
  exact call_meetsIn PySem.F.slot_dict_get hm.typeIs PySem.F.entry_dict_get (PySem.F.args_dict_get_2 _ _) (meets_dict_get (strKind X.prog X.w) a (strKind_is X.prog X.w z t) low) ⟨f, hm, _, H2, I2.tok _, hv .non .none rfl, q2⟩
theorem pe_kget2 (ho : PE X o td) (he : PE X e ty) (hf : PE X f tx) (m : M2 X o "get" apos e f cpos) : PE X (.Call (.Attribute o "get" apos) [e, f] [] cpos) (tKGet2 X.K X.w td ty tx) := by
  constructor
  intro pins s σ H Q I h
  refine wpAny_Call_method m.base m.few m.line PySem.F.plainAttrs_dict PySem.F.slot_dict_get PySem.F.type_dict_get (thn (ho.run pins s σ H _ I h) ?_)
  rintro u s1 ⟨x, H1, I1, rx, a, kvs, rfl, d, q1⟩
  cases (show u = Value.ref a from rx)
  obtain ⟨_, _, _, t1, _⟩ := d.found I1 rfl rfl ""
  obtain ⟨t1, t2⟩ := t1 _ rfl
  refine ⟨t1, t2, ?_⟩
  rw [m.trees]
  refine Calls.callWith_builtin rfl (Calls.evalArgs_plain (Calls.spliced_cons (thn (he.run pins s1 σ H1 _ I1 q1) ?_)))
  rintro iv s2 ⟨y, H2, I2, ry, q2⟩
  refine Calls.spliced_cons (thn (hf.run pins s2 σ H2 _ I2 q2) ?_)
  rintro fv s3 ⟨d3, H3, I3, r3, z, rfl, q3⟩
  refine Calls.spliced_nil ?_
  obtain ⟨t, rfl⟩ := ry
  obtain ⟨low, f, hm, _, hv⟩ := d.found I3 rfl rfl z
  exact call_meetsIn PySem.F.slot_dict_get hm.typeIs PySem.F.entry_dict_get (PySem.F.args_dict_get_3 _ _ _) (meets_dict_get_default (strKind X.prog X.w) a (strKind_is X.prog X.w z t) low fv) ⟨f, hm, _, H3, I3.tok _, hv d3 fv r3, q3⟩
end
end KG

/-! t[:0:-1] of a tuple of two or three; list.extend(tuple) -/
namespace KG
open PySem PySem.Spec PyProof.Rows L2
theorem extend_tup (l : Addr) (items : Array Value) (n : Nat) (b : Addr) (items2 : Array Value) (n2 : Nat) (dd : Option Addr) (sl : Array (Option Value)) (hs0 : ¬(!items.isEmpty && Builtin.List.listTooLong (items.size + items2.size)) = true) (hs1 : items.size ≤ sizeLine) (hs2 : items.size + items2.size ≤ sizeLine + 1) :
    Meets (Builtin.«list.extend» ⟨[.ref l, .ref b], []⟩) (fun _ R s => (s.heap.get? l = some { cls := .type "list", dict := none, data := .seq items n, slots := #[] } ∧ s.heap.get? b = some { cls := .type "tuple", dict := dd, data := .seq items2 n2, slots := sl }) ∧ R (.ok (.ret Value.none)) { s with heap := s.heap.update l (Obj.mapSeq fun x => x ++ items2), toks := s.toks }) :=
  .of_wp fun prog w A R s h => by
    obtain ⟨hp, g, d, tk, os⟩ := s
    obtain ⟨⟨hl, hb⟩, h⟩ := h
    have g1 := AutoSeq1.idx_int
    have g2 := AutoSeq1.sub_tuple_tuple
    have g3 := AutoSeq1.sub_list_list
    have g4 := AutoSeq1.sub_tuple_list
    have g5 := AutoSeq1.sub_list_tuple
    have hz' : (items ++ items2).size ≤ sizeLine + 1 := by rw [Array.size_append]; exact hs2
    wp_walk using (wpAny_updateSeq hl rfl (hz := hs1) (_hz' := hz')), AutoSeq1.wpAny_loadPart' hl, AutoSeq1.wpAny_loadPart' hb
    exact ⟨_, rfl, h⟩
def rExtT (K : PySem.W.Frag) : V → List V → Hp → VK → Prop := fun x vs H Q => ∃ l b xs zs, x = .ref l ∧ vs = [.ref b] ∧ H l = some (.lst xs) ∧ SqT K H b zs ∧ xs.length + zs.length ≤ sizeLine ∧ Q .non (upd H l (.lst (xs ++ zs)))
theorem mt_extT {X : Cx} : MtR X "list.extend" (rExtT X.K) := by
  intro pins s σ H x vs v us Q I rx rv h
  obtain ⟨l, b, xs, zs, rfl, rfl, hH, hB, hz, q⟩ := h
  cases rx
  obtain ⟨u, rfl, ru⟩ := rv.one
  cases ru
  obtain ⟨z, its, n, r, hl, e⟩ := I.lstM hH
  obtain ⟨its2, r2, ⟨o2, e2, hc2, n2, hd2⟩, _⟩ := I.tuple hB
  obtain ⟨c2, dd, dt, sl⟩ := o2
  obtain rfl : c2 = .type "tuple" := hc2
  obtain rfl : dt = .seq its2.toArray n2 := hd2
  have hl2 := r2.length
  have hsz : its.toArray.size + its2.toArray.size ≤ sizeLine := by rw [List.size_toArray, List.size_toArray]; omega
  have hlong : ¬ (!its.toArray.isEmpty && Builtin.List.listTooLong (its.toArray.size + its2.toArray.size)) = true := by
    rw [notLongL hsz, Bool.and_false]
    exact Bool.false_ne_true
  refine call_meets F.slot_list_extend ⟨_, e, rfl⟩ F.entry_list_extend (F.args_list_extend_2 _ _) (extend_tup l its.toArray n b its2.toArray n2 dd sl hlong (by rw [List.size_toArray]; omega) (by omega)) ⟨⟨e, e2⟩, ?_⟩
  refine ⟨.non, _, I.lset (its' := its ++ its2) hH e (by simp) (r.append r2) ?_, rfl, q⟩
  rw [List.length_append]
  omega
section
variable {prog : Program} {w : World} {A : Around} {E : Value → Shared → Prop} {s : Shared}
theorem applied_back {sl : Addr} {vu vs vl : Value} {n m : Nat} {L R : Int} {Q : Int × Int × Nat → Shared → Prop} (hs : s.heap.IsSliceOf sl vl vu vs) (pl : IsPart vl none) (pu : IsPart vu (some 0)) (ps : IsPart vs (some (-1)))
    (e1 : Builtin.Slice.sliceAdjust none (some 0) (-1) (n : Int) = (L, R)) (e2 : Builtin.Slice.slicePlaces L R (-1) = m) (h : Q (L, -1, m) s) : wpAny (model prog w) A (Builtin.Slice.sliceApplied (.ref sl) (pure (n : Int))) Q E s := by
  obtain ⟨os, hos, hcs, hds⟩ := id hs
  unfold Builtin.Slice.sliceApplied Builtin.Slice.sliceFields
  refine wpAny_bind (wpAny_bind (wpAny_field hos hds (x := vl) rfl (wpAny_bind (wpAny_field hos hds (x := vu) rfl (wpAny_bind (wpAny_field hos hds (x := vs) rfl (wpAny_pure ?_)))))))
  refine wpAny_bind (HT.slicePart_ ps ?_)
  show wpAny _ _ (if ((-1 : Int) == 0) = true then _ else _) _ _ s
  rw [if_neg (by decide)]
  refine wpAny_bind (HT.slicePart_ pl (wpAny_bind (HT.slicePart_ pu (wpAny_bind (wpAny_pure ?_)))))
  show wpAny _ _ (match Builtin.Slice.sliceAdjust none (some 0) (-1) (n : Int) with | (lo, hi) => pure (lo, (-1 : Int), Builtin.Slice.slicePlaces lo hi (-1))) _ _ s
  rw [e1]
  show wpAny _ _ (pure (L, (-1 : Int), Builtin.Slice.slicePlaces L R (-1))) _ _ s
  rw [e2]
  exact wpAny_pure h
theorem item_back {t sl : Addr} {items res : Array Value} {vu vs vl : Value} {m : Nat} {L R : Int} {Q : Value → Shared → Prop} (ht : IsTup s.heap t items) (hs : s.heap.IsSliceOf sl vl vu vs) (pl : IsPart vl none) (pu : IsPart vu (some 0)) (ps : IsPart vs (some (-1)))
    (e1 : Builtin.Slice.sliceAdjust none (some 0) (-1) (items.size : Int) = (L, R)) (e2 : Builtin.Slice.slicePlaces L R (-1) = m) (e3 : ((List.range m).filterMap fun (k : Nat) => items[(L + (k : Int) * (-1)).toNat]?).toArray = res) (hsz : res.size ≤ sizeLine)
    (h : Q (.ref s.heap.objs.size) { s with heap := s.heap.push { cls := .type "tuple", data := .seq res } }) : wpAny (model prog w) A (getItem (.ref t) (.ref sl)) Q E s := by
  obtain ⟨os, hos, hcs, hds⟩ := id hs
  have hTs : s.TypeIs (.ref sl) "slice" := ⟨os, hos, hcs⟩
  unfold getItem
  try with_reducible refine wpAny_holding ?_
  first | refine wpAny_bind (wpAny_pure ?_) | skip
  refine wpAny_bind (wpAny_sequenceKey ht.typeIs (by decide) ?_)
  refine wpAny_bind (wpAny_callSpecial?_slot (name := Str.ofString "__getitem__") ht.typeIs PyProof.Rows.slot_tuple_getitem (wpAny_call_entry PyProof.Rows.slot_tuple_getitem ht.typeIs entry_tuple_getitem ?_ (args_tuple_getitem _ _)))
  show wpAny _ _ (Builtin.Tuple.tupleItemsOf (.ref t) >>= _) _ _ s
  refine wpAny_bind (tupleItemsOf_ ht ?_)
  refine wpAny_bind (wpAny_typeOf hTs ?_)
  rw [if_pos (by decide)]
  refine wpAny_bind (applied_back hs pl pu ps e1 e2 ?_)
  have hno : ¬ ((L == 0 && (-1 : Int) == 1 && m == items.size) = true) := by
    intro q
    rw [Bool.and_eq_true, Bool.and_eq_true] at q
    exact absurd q.1.2 (by decide)
  show wpAny _ _ (if (L == 0 && (-1 : Int) == 1 && m == items.size) = true then _ else _) _ _ s
  rw [if_neg hno, e3]
  first
    | exact wpAny_bind (m := Builtin.Tuple.tupleExact _) (wpAny_newObj_type (wpAny_pure ⟨_, rfl, wpAny_pure h⟩) hsz)
    | exact wpAny_bind (m := Builtin.Tuple.tupleExact _) (wpAny_newObj_type (wpAny_bind (wpAny_pure (wpAny_pure ⟨_, rfl, wpAny_pure h⟩))) hsz)
    | exact wpAny_bind (wpAny_bind (m := Builtin.Tuple.tupleExact _) (wpAny_newObj_type (wpAny_pure (wpAny_pure ⟨_, rfl, wpAny_pure h⟩)) hsz))
    | exact wpAny_bind (wpAny_bind (m := Builtin.Tuple.tupleExact _) (wpAny_newObj_type (wpAny_pure ⟨_, rfl, wpAny_pure h⟩) hsz))
end
/-- what the one slice leaves of two or three items -/
inductive Back : List V → List V → Prop
  | two (x a : V) : Back [x, a] [a]
  | three (x a b : V) : Back [x, a, b] [b, a]
def tBack (K : PySem.W.Frag) (te : TE) : TE := fun σ H Q => te σ H fun x H1 => ∃ a xs ys, x = .ref a ∧ SqT K H1 a xs ∧ Back xs ys ∧ ∀ p, H1 p = none → Q (.ref p) (upd H1 p (.tup ys))
theorem pe_backT {X : Cx} {e : Expr} {te : TE} {k k0 : Nat} {p0 p1 p2 p3 pos : Pos} (he : PE X e te) : PE X (.Subscript e (.Slice none (some (.Constant (.int 0) k0 p0)) (some (.UnaryOp .USub (.Constant (.int 1) k p1) p2)) p3) pos) (tBack X.K te) := by
  constructor
  intro pins s σ H Q I h
  refine Subscript_ (thn (he.run pins s σ H _ I h) ?_)
  rintro v s1 ⟨x, H1, I1, r1, a, xs, ys, rfl, hx, hb, q⟩
  cases r1
  have hst : PO X (some (.UnaryOp .USub (.Constant (.int 1) k p1) p2)) (tPart (tUn (rU fun i => .int (-i)) (tC (.int 1)))) := po_some (pe_un un_neg pe_int)
  have hup : PO X (some (.Constant (.int 0) k0 p0)) (tPart (tC (.int 0))) := po_some pe_int
  refine wpAny_Slice (thn (po_none.run pins s1 σ H1 (fun o H2 => o = none ∧ H2 = H1) I1 ⟨rfl, rfl⟩) ?_)
  rintro vl s2 ⟨l, H2, I2, pl, rfl, rfl⟩
  refine thn (hup.run pins s2 σ H2 (fun o H3 => o = some 0 ∧ H3 = H2) I2 ⟨0, rfl, rfl, rfl⟩) ?_
  rintro vu s3 ⟨u, H3, I3, pu, rfl, rfl⟩
  refine thn (hst.run pins s3 σ H3 (fun o H4 => o = some (-1) ∧ H4 = H3) I3 ⟨1, rfl, -1, rfl, rfl, rfl⟩) ?_
  rintro vs s4 ⟨o, H4, I4, ps, rfl, rfl⟩
  have I5 : Inv X pins σ H4 { s4 with heap := s4.heap.push { cls := .type "slice", data := .fields #[vl, vu, vs] } } := I4.kept (t' := s4.toks) fun b ob q => Heap.get?_push_of_some _ q
  obtain ⟨its, r, ht, hz⟩ := I5.tuple hx
  show wpAny (model X.prog X.w) X.A (subscriptTail e (.Slice none (some (.Constant (.int 0) k0 p0)) (some (.UnaryOp .USub (.Constant (.int 1) k p1) p2)) p3) (.ref a) (.ref s4.heap.objs.size)) (EP X pins σ Q) X.xe { s4 with heap := s4.heap.push { cls := .type "slice", data := .fields #[vl, vu, vs] } }
  refine tail_any (ops := [.ref a, .ref s4.heap.objs.size]) ht.typeIs PyProof.Rows.slot_tuple_getitem.lookup ?_ (by with_unfolding_all rfl)
  cases hb with
  | two x0 a0 =>
    cases r with
    | cons rx rr => cases rr with
      | cons ra rr2 =>
        cases rr2
        refine item_back ht (Heap.IsSliceOf.new _ vl vu vs) pl pu ps (L := 1) (R := 0) (m := 1) rfl rfl rfl (by show 1 ≤ sizeLine; decide) ?_
        refine ⟨.ref _, _, I5.laid (t' := s4.toks) (o := .tup [a0]) (fun b ob q => Heap.get?_push_of_some _ q) (Nat.le_refl _) ?_, rfl, q _ (I5.hok.fresh (Nat.le_refl _))⟩
        exact ⟨by show 1 ≤ sizeLine; decide, _, .cons ra .nil, IsTup.new _ _⟩
  | three x0 a0 b0 =>
    cases r with
    | cons rx rr => cases rr with
      | cons ra rr2 => cases rr2 with
        | cons rb rr3 =>
          cases rr3
          refine item_back ht (Heap.IsSliceOf.new _ vl vu vs) pl pu ps (L := 2) (R := 0) (m := 2) rfl rfl rfl (by show 2 ≤ sizeLine; decide) ?_
          refine ⟨.ref _, _, I5.laid (t' := s4.toks) (o := .tup [b0, a0]) (fun b ob q => Heap.get?_push_of_some _ q) (Nat.le_refl _) ?_, rfl, q _ (I5.hok.fresh (Nat.le_refl _))⟩
          exact ⟨by show 2 ≤ sizeLine; decide, _, .cons rb (.cons ra .nil), IsTup.new _ _⟩
end KG

set_option maxHeartbeats 1000000
/-! texts, dicts of the module, in, lists extended -/
namespace DN
open PySem PySem.Spec PyProof.Rows L2 KG
section
variable {X : Cx} {C : Addr} {pos : Pos}
/-! o.m(e) of a text -/
theorem id_m1 {r : V → List V → Hp → VK → Prop} {f : D → D → Option D} {da db : List Sl → Option D} (h : ∀ (A : List Addr) (G H : Hp) (x : Str) (y : V) (b d : D) (Q : VK), Same G H → Rp C A G y b → f (.str x) b = some d → (∀ G' H' v, Ext G H G' H' → Rp C A G' v d → Q v H') → r (.str x) [y] H Q) (hs : ∀ a b d, f a b = some d → ∃ x, a = .str x) :
    ∀ σ H Q, tD C (d2 f da db) σ H Q → tM1 r (tD C da) (tD C db) σ H Q := fun σ H Q ⟨A, H0, G, ρ, d, en, sm, hd, k⟩ => by
  obtain ⟨a, h1, hd⟩ := obind hd
  obtain ⟨b, h2, hd⟩ := obind hd
  obtain ⟨x, rfl⟩ := hs a b d hd
  refine ⟨A, H0, G, ρ, _, en, sm, h1, fun G1 H1 v x1 r1 => ?_⟩
  cases r1
  exact ⟨⟨x, rfl⟩, A, H0, G1, ρ, b, en.ext x1, x1.s, h2, fun G2 H2 y x2 r2 => h A G2 H2 x y b d Q x2.s r2 hd fun G' H' v x3 r3 => k G' H' v ((x1.trans x2).trans x3) r3⟩
def fSplit : D → D → Option D
  | .str a, .str b => if !(b.length == 0) && decide (a.length ≤ 100000) then some (.lst ((Txt.split a b).map .str)) else none
  | _, _ => none
theorem strs_rp {C : Addr} {A : List Addr} {G : Hp} : ∀ l : List Str, RpAll C A G (l.map V.str) (l.map D.str)
  | [] => .nil
  | x :: l => .cons (.str x) (strs_rp l)
theorem dn_split {o e : Expr} {apos : Pos} {da db : List Sl → Option D} (ho : PE X o (tD C da)) (he : PE X e (tD C db)) (hs : starEach [e] X.env = [(false, eval e X.env)] := by rfl) (hbase : attributeBase o "split" X.env (eval o X.env) = eval o X.env := by rfl) (hline : (apos.endLine == pos.line) = true := by rfl) :
    PE X (.Call (.Attribute o "split" apos) [e] [] pos) (tD C (d2 fSplit da db)) := pe_to (pe_split ho he hs hbase hline) (id_m1 (fun A G H x y b d Q sm r hd k => by
  cases b with
  | str b =>
    cases r
    obtain ⟨hc, rfl⟩ := oif (show (if !(b.length == 0) && decide (x.length ≤ 100000) then some (D.lst ((Txt.split x b).map .str)) else none) = some d from hd)
    rw [Bool.and_eq_true, Bool.not_eq_true'] at hc
    exact ⟨x, b, rfl, rfl, hc.1, by have := of_decide_eq_true hc.2; rw [sizeLine_eq]; omega, fun p np => k _ _ _ (.new sm np _) (.lst upd_same (strs_rp _))⟩
  | _ => cases hd) fun a b d h => by
    cases a with
    | str x => exact ⟨x, rfl⟩
    | _ => cases h)
def strL : List D → Option (List Str)
  | [] => some []
  | .str i :: ds => (strL ds).bind fun r => some (i :: r)
  | _ :: _ => none
theorem strL_eq : ∀ {ds : List D} {l : List Str}, strL ds = some l → ds = l.map D.str
  | [], _, h => by cases h; rfl
  | d :: ds, _, h => by
    unfold strL at h
    split at h
    · rename_i q; cases q
    · rename_i q
      cases q
      obtain ⟨r, h1, h2⟩ := obind h
      cases h2
      rw [strL_eq h1]; rfl
    · cases h
theorem strs_eq {C : Addr} {A : List Addr} {G : Hp} : ∀ {l : List Str} {vs : List V}, RpAll C A G vs (l.map D.str) → vs = l.map V.str
  | [], _, h => by cases h; rfl
  | x :: l, _, h => by
    cases h with
    | cons r1 r2 => cases r1; rw [strs_eq r2]; rfl
def fJoin : D → D → Option D
  | .str a, .lst ds => (strL ds).bind fun l => if decide ((l.map (·.length)).sum + l.length * a.length ≤ 16777216) then some (.str (Txt.join a l)) else none
  | _, _ => none
theorem dn_join {o e : Expr} {apos : Pos} {da db : List Sl → Option D} (ho : PE X o (tD C da)) (he : PE X e (tD C db)) (hs : starEach [e] X.env = [(false, eval e X.env)] := by rfl) (hbase : attributeBase o "join" X.env (eval o X.env) = eval o X.env := by rfl) (hline : (apos.endLine == pos.line) = true := by rfl) :
    PE X (.Call (.Attribute o "join" apos) [e] [] pos) (tD C (d2 fJoin da db)) := pe_to (pe_join ho he hs hbase hline) (id_m1 (fun A G H x y b d Q sm r hd k => by
  cases b with
  | lst ds =>
    obtain ⟨l, h1, hd⟩ := obind (show ((strL ds).bind fun l => if decide ((l.map (·.length)).sum + l.length * x.length ≤ 16777216) then some (D.str (Txt.join x l)) else none) = some d from hd)
    obtain ⟨hc, rfl⟩ := oif hd
    have := strL_eq h1
    subst this
    cases r with
    | @lst p vs _ e ra =>
      have := strs_eq ra
      subst this
      exact ⟨x, p, l, rfl, rfl, .inl (.of (sm _ _ e)), of_decide_eq_true hc, k G H _ (.refl sm) (.str _)⟩
  | _ => cases hd) fun a b d h => by
    cases a with
    | str x => exact ⟨x, rfl⟩
    | _ => cases h)
/-! str(int), int(text) -/
def fStr : List D → Option D
  | [.int i] => if decide (i.natAbs.log2 < 1920) then some (.str (toString i)) else none
  | _ => none
theorem is_strI : IsN C (fun xs H Q => ∃ i : Int, xs = [.int i] ∧ i.natAbs.log2 < 1920 ∧ Q (.str (toString i)) H) fStr := fun A G H xs ds d Q sm r hd k => by
  unfold fStr at hd
  split at hd
  · obtain ⟨hc, rfl⟩ := oif hd
    cases r with
    | cons r1 r2 => cases r2; cases r1; exact ⟨_, rfl, of_decide_eq_true hc, k G H _ (.refl sm) (.str _)⟩
  · cases hd
def fIntA : List D → Option D
  | [.str a] => (PySem.intText? a).bind fun n => if decide (a.length ≤ 640) then some (.int n) else none
  | ds => fInt ds
def rIntA : List V → Hp → VK → Prop := fun xs H Q => ((∃ i, xs = [.int i] ∧ Q (.int i) H) ∨ ∃ k, xs = [.bl k] ∧ Q (.int (if k then 1 else 0)) H) ∨ ∃ a n, xs = [.str a] ∧ PySem.intText? a = some n ∧ a.length ≤ 640 ∧ Q (.int n) H
theorem call_intA : CallR X (.type "int") rIntA := call_int1.or call_int_str
theorem is_intA : IsN C rIntA fIntA := fun A G H xs ds d Q sm r hd k => by
  unfold fIntA at hd
  split at hd
  · obtain ⟨n, h1, hd⟩ := obind hd
    obtain ⟨hc, rfl⟩ := oif hd
    cases r with
    | cons r1 r2 => cases r2; cases r1; exact .inr ⟨_, n, rfl, h1, of_decide_eq_true hc, k G H _ (.refl sm) (.int _)⟩
  · exact .inl (is_int A G H xs ds d Q sm r hd k)
/-! f'..' -/
def fFmt : D → Option Str
  | .str y => if decide (y.length ≤ 100000) then some y else none
  | .int i => if decide (i.natAbs.log2 < 1920) then some (toString i) else none
  | _ => none
/-- the parts of an f-text -/
def dJs : List (List Sl → Option D) → Str → List Sl → Option Str
  | [], acc, _ => some acc
  | t :: ts, acc, ρ => (t ρ).bind fun d => (fFmt d).bind fun y => if decide ((acc ++ y).length ≤ 100000) then dJs ts (acc ++ y) ρ else none
inductive PJD (X : Cx) (C : Addr) : List Expr → List (List Sl → Option D) → Prop where
  | nil : PJD X C [] []
  | cons {e : Expr} {t : List Sl → Option D} {es : List Expr} {ts : List (List Sl → Option D)} (h : PE X e (tD C t)) (hs : ∀ ρ d, t ρ = some d → ∃ y, d = .str y) (r : PJD X C es ts) : PJD X C (e :: es) (t :: ts)
def dFmtV (t : List Sl → Option D) : List Sl → Option D := fun ρ => (t ρ).bind fun d => (fFmt d).bind fun y => some (.str y)
theorem dn_fmt {e : Expr} {t : List Sl → Option D} (h : PE X e (tD C t)) : PE X (.FormattedValue e (-1) none pos) (tD C (dFmtV t)) := pe_to (pe_fmt h) fun σ H Q ⟨A, H0, G, ρ, z, en, sm, hd, k⟩ => by
  obtain ⟨d, h1, hd⟩ := obind hd
  obtain ⟨y, h2, hd⟩ := obind hd
  cases hd
  refine ⟨A, H0, G, ρ, d, en, sm, h1, fun G1 H1 v x1 r1 => ?_⟩
  cases d with
  | str s =>
    cases r1
    obtain ⟨hc, rfl⟩ := oif (show (if decide (s.length ≤ 100000) then some s else none) = some y from h2)
    exact .inl ⟨s, rfl, by have := of_decide_eq_true hc; rw [sizeLine_eq]; omega, k G1 H1 _ x1 (.str _)⟩
  | int i =>
    cases r1
    obtain ⟨hc, rfl⟩ := oif (show (if decide (i.natAbs.log2 < 1920) then some (toString i : Str) else none) = some y from h2)
    exact .inr ⟨i, rfl, of_decide_eq_true hc, k G1 H1 _ x1 (.str _)⟩
  | _ => cases h2
theorem fmtV_str {t : List Sl → Option D} : ∀ ρ d, dFmtV t ρ = some d → ∃ y, d = .str y := fun ρ d h => by
  obtain ⟨d, h1, h⟩ := obind h
  obtain ⟨y, h2, h⟩ := obind h
  cases h
  exact ⟨y, rfl⟩
theorem const_str {x : Str} : ∀ ρ d, dK (.str x) ρ = some d → ∃ y, d = .str y := fun ρ d h => by cases h; exact ⟨x, rfl⟩
theorem PJD.pj {es : List Expr} {ts : List (List Sl → Option D)} (h : PJD X C es ts) : PJ X es (ts.map (tD C ·)) := by
  induction h with
  | nil => exact .nil
  | cons h _ _ ih => exact .cons h ih
theorem js_ok {es : List Expr} {ts : List (List Sl → Option D)} (h : PJD X C es ts) : ∀ (acc : Str) (σ : L2.St) (H : Hp) (Q : Str → Hp → Prop), (∃ A H0 G ρ out, En C A H0 G H σ ρ ∧ Same G H ∧ dJs ts acc ρ = some out ∧ ∀ G' H', Ext G H G' H' → Q out H') → tJs (ts.map (tD C ·)) acc σ H Q := by
  induction h with
  | nil =>
    rintro acc σ H Q ⟨A, H0, G, ρ, out, en, sm, hd, k⟩
    cases hd
    exact k G H (.refl sm)
  | cons h hs _ ih =>
    rintro acc σ H Q ⟨A, H0, G, ρ, out, en, sm, hd, k⟩
    obtain ⟨d, h1, hd⟩ := obind hd
    obtain ⟨y, h2, hd⟩ := obind hd
    obtain ⟨y0, rfl⟩ := hs ρ d h1
    refine ⟨A, H0, G, ρ, _, en, sm, h1, fun G1 H1 v x1 r1 => ?_⟩
    cases r1
    obtain ⟨hc, rfl⟩ := oif (show (if decide (y0.length ≤ 100000) then some y0 else none) = some y from h2)
    split at hd
    · rename_i hz
      exact ⟨y0, rfl, by have := of_decide_eq_true hz; rw [sizeLine_eq]; omega, ih _ _ _ _ ⟨A, H0, G1, ρ, out, en.ext x1, x1.s, hd, fun G' H' x2 => k G' H' (x1.trans x2)⟩⟩
    · cases hd
def dJoined (ts : List (List Sl → Option D)) : List Sl → Option D := fun ρ => (dJs ts Str.empty ρ).bind fun s => some (.str s)
theorem dn_joined {v1 v2 : Expr} {rest : List Expr} {ts : List (List Sl → Option D)} (h : PJD X C (v1 :: v2 :: rest) ts) : PE X (.JoinedStr (v1 :: v2 :: rest) pos) (tD C (dJoined ts)) := pe_to (pe_joined h.pj) fun σ H Q ⟨A, H0, G, ρ, d, en, sm, hd, k⟩ => by
  obtain ⟨s, h1, hd⟩ := obind hd
  cases hd
  exact js_ok h _ _ _ _ ⟨A, H0, G, ρ, s, en, sm, h1, fun G' H' x => k G' H' _ x (.str _)⟩
/-! a dict of the module with texts for keys and ints for values -/
def fKGet2 (kvs : List (Str × Int)) : D → D → Option D
  | .str z, d => some (match kvs.lookup z with
    | some v => .int v
    | none => d)
  | _, _ => none
theorem dn_kget2 {e f : Expr} {x : Str} {apos p : Pos} {aD : Addr} {kvs : List (Str × Int)} {da db : List Sl → Option D} (hg : Gl X x) (hm : X.mg x = some (.ref aD)) (hd : KDi X.K X.w aD kvs) (he : PE X e (tD C da)) (hf : PE X f (tD C db)) (m : M2 X (.Name x p) "get" apos e f pos) (hdb : (x == ("__debug__" : Str)) = false := by decide) :
    PE X (.Call (.Attribute (.Name x p) "get" apos) [e, f] [] pos) (tD C (d2 (fKGet2 kvs) da db)) := pe_to (pe_kget2 (pe_glob (v := .ref aD) hg hm rfl hdb) he hf m) fun σ H Q ⟨A, H0, G, ρ, d, en, sm, hdd, k⟩ => by
  obtain ⟨a, h1, hdd⟩ := obind hdd
  obtain ⟨b, h2, hdd⟩ := obind hdd
  refine ⟨aD, kvs, rfl, hd, A, H0, G, ρ, a, en, sm, h1, fun G1 H1 v x1 r1 => ⟨A, H0, G1, ρ, b, en.ext x1, x1.s, h2, fun G2 H2 u x2 r2 => ?_⟩⟩
  cases a with
  | str z =>
    cases r1
    refine ⟨z, rfl, k G2 H2 _ (x1.trans x2) ?_⟩
    unfold kdOr
    have hdd : (match kvs.lookup z with
      | some v => D.int v
      | none => b) = d := Option.some.inj hdd
    split
    · rename_i w e
      rw [e] at hdd
      subst hdd
      exact .int _
    · rename_i e
      rw [e] at hdd
      subst hdd
      exact r2
  | _ => cases hdd
/-! in a list of ints -/
def fIn : D → D → Option D
  | .int i, .lst ds => (intL ds).bind fun l => some (.bl (inV (.int i) (l.map V.int)))
  | _, _ => none
theorem flat_ints : ∀ l : List Int, (l.map V.int).all flatV = true
  | [] => rfl
  | i :: l => by rw [List.map_cons, List.all_cons, flat_ints l]; rfl
theorem is_in {K : PySem.W.Frag} : Is2 C (rIn K false) fIn := fun A G H x y a b d Q sm ra rb hd k => by
  unfold fIn at hd
  split at hd
  · obtain ⟨l, h1, hd⟩ := obind hd
    cases hd
    cases ra
    cases rb with
    | lst e r =>
      have := intL_rp r h1
      subst this
      exact ⟨_, _, rfl, .inl (.of (sm _ _ e)), rfl, flat_ints l, k G H _ (.refl sm) (.bl _)⟩
  · cases hd
theorem dn_in {a b : Expr} {da db : List Sl → Option D} (ha : PE X a (tD C da)) (hb : PE X b (tD C db)) (hm : behindInMarks .In b = false := by rfl) : PE X (.Compare a [.In] [b] pos) (tD C (d2 fIn da db)) := dn_cmp (r := rIn X.K false) is_in op_in_seq ha hb hm
theorem dt_in {a b : Expr} {da db : List Sl → Option D} (ha : PE X a (tD C da)) (hb : PE X b (tD C db)) (hm : behindInMarks .In b = false := by rfl) : PT X (.Compare a [.In] [b] pos) (tB C (dAsB (d2 fIn da db))) := dt_cmp (r := rIn X.K false) is_in op_in_seq ha hb hm
/-! len of a text -/
def fLenS : List D → Option D
  | [.str x] => if decide (x.length ≤ 100000) then some (.int x.length) else none
  | _ => none
/-! t[:0:-1] -/
def fBackT : D → Option D
  | .tup [_, a] => some (.tup [a])
  | .tup [_, a, b] => some (.tup [b, a])
  | _ => none
theorem dn_backT {e : Expr} {de : List Sl → Option D} {k k0 : Nat} {p0 p1 p2 p3 : Pos} (he : PE X e (tD C de)) : PE X (.Subscript e (.Slice none (some (.Constant (.int 0) k0 p0)) (some (.UnaryOp .USub (.Constant (.int 1) k p1) p2)) p3) pos) (tD C (d1 fBackT de)) :=
  pe_to (pe_backT he) fun σ H Q ⟨A, H0, G, ρ, z, en, sm, hd, k⟩ => by
    obtain ⟨a, h1, hd⟩ := obind hd
    refine ⟨A, H0, G, ρ, a, en, sm, h1, fun G1 H1 x x1 r1 => ?_⟩
    unfold fBackT at hd
    split at hd
    · cases hd
      cases r1 with
      | tup e r => cases r with
        | cons ra r => cases r with
          | cons rb r =>
            cases r
            exact ⟨_, _, _, rfl, .of (x1.s _ _ e), .two _ _, fun p np => k _ _ _ (x1.trans (.new x1.s np _)) (.tup upd_same (.cons (rb.mono (same_new (none_of x1.s np) _)) .nil))⟩
    · cases hd
      cases r1 with
      | tup e r => cases r with
        | cons ra r => cases r with
          | cons rb r => cases r with
            | cons rc r =>
              cases r
              exact ⟨_, _, _, rfl, .of (x1.s _ _ e), .three _ _ _, fun p np => k _ _ _ (x1.trans (.new x1.s np _)) (.tup upd_same (.cons (rc.mono (same_new (none_of x1.s np) _)) (.cons (rb.mono (same_new (none_of x1.s np) _)) .nil)))⟩
    · cases hd
/-! xs.extend(t), xs a list of one's own -/
def sExt (i : Nat) (de : List Sl → Option D) : List Sl → Option Out := fun ρ => (ownD i ρ).bind fun ds => (de ρ).bind fun d => match d with
  | .tup es => if decide (ds.length + es.length ≤ szB) then some (.nx (ρ.set i (.own (ds ++ es)))) else none
  | _ => none
theorem ds_ext {i : Nat} {x : Str} {e : Expr} {de : List Sl → Option D} {apos epos p : Pos} (he : PE X e (tD C de)) (hi : X.N[i]? = some x := by rfl) (hv : Vis X.env.scope x := by first | exact .inl rfl | exact .inr (.inl rfl) | exact .inr (.inr rfl)) (hd : (x == ("__debug__" : Str)) = false := by decide) (hcd : (x == ("__classdict__" : Str)) = false := by decide)
    (hps : ∀ {t : TE}, PE X (.Call (.Attribute (.Name x p) "extend" apos) [e] [] epos) t → PS X (.Expr (.Call (.Attribute (.Name x p) "extend" apos) [e] [] epos) pos) (tDrop t))
    (hpe : ∀ {to : TE} {t : TA}, PE X (.Name x p) to → PA X [e] t → PE X (.Call (.Attribute (.Name x p) "extend" apos) [e] [] epos) (tBM X.K "list" (rExtT X.K) to t))
    (hst : starEach [e] X.env = (false, eval e X.env) :: starEach [] X.env := by rfl) :
    PS X (.Expr (.Call (.Attribute (.Name x p) "extend" apos) [e] [] epos) pos) (tS C (sExt i de)) :=
  ps_to (hps (hpe (pe_var hi hv hd hcd) (pa_cons he pa_nil hst))) fun E σ H ⟨A, G0, H0, G, ρ, o, x0, en, hd, fin⟩ => by
    obtain ⟨ds, h1, hd⟩ := obind hd
    obtain ⟨d, h2, hd⟩ := obind hd
    have ho := ownD_ok h1
    obtain ⟨a, vs, p1, p2, p3, p4, p5, p6⟩ := en.own i ds ho
    refine ⟨_, p1, .inl ⟨rfl, vs, .of p2⟩, A, H0, G, ρ, d, en, x0.s, h2, fun G1 H1 v x1 r1 => ?_⟩
    cases d with
    | tup es =>
      obtain ⟨hz, rfl⟩ := oif (show (if decide (ds.length + es.length ≤ szB) then some (Out.nx (ρ.set i (.own (ds ++ es)))) else none) = some o from hd)
      cases r1 with
      | @tup b us _ e ra =>
        have q2 := x1.h _ _ p2
        have q3 := x1.f _ _ p2 p3
        refine ⟨a, b, vs, us, rfl, rfl, q2, .of (x1.s _ _ e), ?_, ?_⟩
        · rw [p5.len, ra.len]
          have := of_decide_eq_true hz
          unfold szB at this
          rw [sizeLine_eq]; omega
        · exact fin G1 _ σ x1.g (grow_ext (x0.trans x1) q3 p4) ((en.ext x1).grow ho p1 ((p5.mono x1.g).append ra))
    | _ => cases hd
end
end DN

/-! steps of drawings, as the laws make them -/
namespace KG
open PySem PySem.Spec PyProof.Rows L2
structure Stp where
  w : Str
  ns : List Int
def stV (s : Stp) : List V := .str s.w :: s.ns.map V.int
/-- the values are the steps, each a tuple that stands -/
inductive SAt (H : Hp) : List V → List Stp → Prop
  | nil : SAt H [] []
  | cons {t : Addr} {s : Stp} {vs : List V} {ss : List Stp} : H t = some (.tup (stV s)) → SAt H vs ss → SAt H (.ref t :: vs) (s :: ss)
section
variable {H H' : Hp} {vs us : List V} {ss rs : List Stp}
theorem SAt.len (h : SAt H vs ss) : vs.length = ss.length := by
  induction h with
  | nil => rfl
  | cons _ _ ih => rw [List.length_cons, List.length_cons, ih]
theorem SAt.mono (h : SAt H vs ss) (k : ∀ t xs, H t = some (.tup xs) → H' t = some (.tup xs)) : SAt H' vs ss := by
  induction h with
  | nil => exact .nil
  | cons e _ ih => exact .cons (k _ _ e) ih
theorem SAt.same (h : SAt H vs ss) (s : Same H H') : SAt H' vs ss := h.mono fun t xs e => s t _ e
theorem SAt.put {r : Addr} {xs ys : List V} (h : SAt H vs ss) (e : H r = some (.lst xs)) : SAt (upd H r (.lst ys)) vs ss := h.mono fun t zs e2 => by
  rw [upd_ne (ne_of e2 e (by intro z; cases z))]; exact e2
theorem SAt.but {p a : Addr} {ns : List Int} (h : SAt H vs ss) (X : StX H p a ns) (b : But p H H') : SAt H' vs ss := h.mono fun t xs e => b _ _ (fun z => by
  obtain ⟨_, _, _, _, e2, _⟩ := X
  rw [z, e2] at e; cases e) e
theorem SAt.get : ∀ {vs : List V} {ss : List Stp} {i : Nat} {s : Stp}, SAt H vs ss → ss[i]? = some s → ∃ t, vs[i]? = some (.ref t) ∧ H t = some (.tup (stV s))
  | _, _, i, s, .nil, h => by simp at h
  | _, _, 0, s, .cons e _, h => by simp at h; subst h; exact ⟨_, rfl, e⟩
  | _, _, i + 1, s, .cons _ r, h => by
    obtain ⟨t, h1, h2⟩ := SAt.get (i := i) (s := s) r (by simpa using h)
    exact ⟨t, by simpa using h1, h2⟩
theorem SAt.append (h : SAt H vs ss) (k : SAt H us rs) : SAt H (vs ++ us) (ss ++ rs) := by
  induction h with
  | nil => exact k
  | cons e _ ih => exact .cons e ih
theorem SAt.take : ∀ {vs : List V} {ss : List Stp} (n : Nat), SAt H vs ss → SAt H (vs.take n) (ss.take n)
  | _, _, 0, _ => .nil
  | _, _, n + 1, .nil => .nil
  | _, _, n + 1, .cons e r => .cons e (SAt.take n r)
theorem SAt.drop : ∀ {vs : List V} {ss : List Stp} (n : Nat), SAt H vs ss → SAt H (vs.drop n) (ss.drop n)
  | _, _, 0, h => h
  | _, _, n + 1, .nil => .nil
  | _, _, n + 1, .cons _ r => SAt.drop n r
theorem SAt.rep {t : Addr} {s : Stp} (e : H t = some (.tup (stV s))) : ∀ n, SAt H (List.replicate n (.ref t)) (List.replicate n s)
  | 0 => .nil
  | n + 1 => .cons e (SAt.rep e n)
end
/-- whether a step of this word gives a point -/
def isPt (w : Str) : Bool := inV (.str w) [.str "point", .str "meet"]
/-- the forms of steps -/
def SForm (s : Stp) : Prop := (s.w = "point" ∧ s.ns.length = 2) ∨ (s.w = "line" ∧ s.ns.length = 2) ∨ (s.w = "circle" ∧ s.ns.length = 3) ∨ (s.w = "meet" ∧ s.ns.length = 3)
/-- i is the place of a step that gives a point (b), or a figure (not b) -/
def Nm1 (ss : List Stp) (b : Bool) (i : Int) : Prop := 0 ≤ i ∧ ∃ s, ss[i.toNat]? = some s ∧ isPt s.w = b
/-- a step that is drawn by the rules behind ss, its integers within m -/
def SNew (ss : List Stp) (m : Int) (s : Stp) : Prop :=
  (∃ x y, s = ⟨"point", [x, y]⟩ ∧ -m ≤ x ∧ x ≤ m ∧ -m ≤ y ∧ y ≤ m) ∨ (∃ i j, s = ⟨"line", [i, j]⟩ ∧ Nm1 ss true i ∧ Nm1 ss true j) ∨
  (∃ i j k, s = ⟨"circle", [i, j, k]⟩ ∧ Nm1 ss true i ∧ Nm1 ss true j ∧ Nm1 ss true k) ∨ (∃ i j w, s = ⟨"meet", [i, j, w]⟩ ∧ Nm1 ss false i ∧ Nm1 ss false j ∧ 0 ≤ w ∧ w ≤ 1)
theorem SNew.form {ss : List Stp} {m : Int} {s : Stp} (h : SNew ss m s) : SForm s := by
  rcases h with ⟨x, y, rfl, _⟩ | ⟨i, j, rfl, _⟩ | ⟨i, j, k, rfl, _⟩ | ⟨i, j, w, rfl, _⟩
  · exact .inl ⟨rfl, rfl⟩
  · exact .inr (.inl ⟨rfl, rfl⟩)
  · exact .inr (.inr (.inl ⟨rfl, rfl⟩))
  · exact .inr (.inr (.inr ⟨rfl, rfl⟩))
end KG

/-! own errors whose __init__ stores one field -/
namespace KG
open PySem PySem.Spec PyProof.Rows L2
/-- isinstance(e, c), e the exception that the suite holds, with fields of its own -/
def rIsED (K : PySem.W.Frag) (D a : Addr) (cls : Value) (d : Option Addr) : List V → Hp → VK → Prop := fun xs H Q => cls = .ref D ∧ ∃ (dd : Addr) (fs : List (Str × V)) (c : V) (cv : Value) (b : Bool), d = some dd ∧ H dd = some (.xd fs) ∧ xs = [.ref a, c] ∧ (∀ u, RelV c u → u = cv) ∧ PySem.W.kitOne K (.ref D) cv = some b ∧ Q (.bl b) H
theorem call_isED {X : Cx} {a D : Addr} {oe : Obj} {cls : Value} {d : Option Addr} {pn : List (Addr × Obj)} (C : ExcC X.K D) (hcl : (PySem.W.clsIn X.K D).isSome = true) (hz : Zc cls d oe) (hf : ∃ vs, oe.data = .fields vs) : CallR (X.suite a ((a, oe) :: pn)) (.builtin "isinstance") (rIsED X.K D a cls d) := by
  intro pins s σ H xs us Q I r h
  obtain ⟨rfl, dd, fs, c, cv, b, rfl, ed, rfl, hcv, e, q⟩ := h
  obtain ⟨u1, u2, rfl, r1, r2⟩ := vals2 r
  cases (show u1 = Value.ref a from r1)
  have ec := hcv _ r2
  subst ec
  obtain ⟨hget, _⟩ := I.pin (a, oe) (List.mem_append.mpr (.inl List.mem_cons_self))
  obtain ⟨vs, hv⟩ := hf
  have hx : ObjOk X.prog X.w H s.heap dd (.xd fs) := I.hok dd _ ed
  obtain ⟨mA, hns, _⟩ := hx
  obtain ⟨od, ho, _⟩ := lookIn_ns hns
  have J : PySem.W.InstAt s.heap a oe D (some od) := ⟨hget, hz.1, by unfold PySem.W.notCls; rw [hv] <;> rfl, by rw [hz.2]; exact ho⟩
  exact PySem.W.kia_one (PySem.W.kitx_exc hcl C.hg C.hk C.hs C.ha C.hn C.ht C.hm) I.kIn J e (fun z => nomatch z) fun tk => ⟨.bl b, H, I.kept (t' := tk) fun _ _ z => z, rfl, q⟩
/-- what the written part says of an own error of the name x with the field f, below the error at W, below ValueError -/
structure OwnE (K : PySem.W.Frag) (mg : Str → Option Value) (x f : Str) (C fI W : Addr) : Prop where
  gC : mg x = some (.ref C)
  oex : OexC K C
  xf : XfC K C
  is : ExcC K C
  cl : (PySem.W.clsIn K C).isSome = true
  noF : PySem.W.findIn K (.ref C) f = some none
  iC : PySem.W.findIn K (.ref C) "__init__" = some (some (.ref fI))
  tI : PySem.W.typeIn K (.ref fI) = some (.type "function")
  exm : PySem.W.exmOne K (.ref C) (.ref C) = some true
  kW : PySem.W.kitOne K (.ref C) (.ref W) = some true
  kV : PySem.W.kitOne K (.ref C) (.type "ValueError") = some true
theorem kit_ref {K : PySem.W.Frag} {t : Value} {W : Addr} (h1 : PySem.W.isClsIn K W = true) (h2 : PySem.W.typeIn K (.ref W) = some (.type "type")) (h3 : PySem.W.subIn K t (.ref W) = some true) : PySem.W.kitOne K t (.ref W) = some true := by
  have h1' : (PySem.W.clsIn K W).isSome = true := h1
  unfold PySem.W.kitOne
  by_cases z : (t == .ref W) = true
  · rw [if_pos z]
  · rw [if_neg z]
    show (if ((PySem.W.clsIn K W).isSome && PySem.W.typeIn K (.ref W) == some (.type "type")) = true then PySem.W.subIn K t (.ref W) else none) = some true
    rw [if_pos (by rw [h1', h2] <;> rfl), h3]
theorem kit_val {K : PySem.W.Frag} {C : Addr} (h3 : PySem.W.subIn K (.ref C) (.type "ValueError") = some true) : PySem.W.kitOne K (.ref C) (.type "ValueError") = some true := by
  unfold PySem.W.kitOne
  rw [if_neg (show ¬ (Value.ref C == Value.type "ValueError") = true from fun z => nomatch (beq_iff_eq.mp z))]
  show (if PySem.W.kitMeta "ValueError" = true then PySem.W.subIn K (.ref C) (.type "ValueError") else none) = some true
  rw [if_pos (by decide +kernel), h3]
theorem own_mk {K : PySem.W.Frag} {h : Heap} {mg : Str → Option Value} {x f : Str} {C fI W : Addr} (X : K.In h) (G : h.Ns mainGlobals mg) {nm q : Str} {N : Addr} {bs : List Value} {sn : List Str} {sub : List Value} {ab : Bool} {col : Option Bool} {dd : Option Addr} {m0 m1 m2 m3 m5 : Option Value}
    (eC : PySem.W.nsIn K mainGlobals x = some (some (.ref C)))
    (eX : K.lookup C = some (excClassObj nm q C N bs [.ref W, .type "ValueError", .type "Exception", .type "BaseException", .type "object"] true sn sub ab col dd m0 m1 m2 m3 m5 "ValueError.__new__"))
    (e1 : PySem.W.findIn K (.ref C) "__setattr__" = some (some (.builtin "object.__setattr__"))) (e2 : PySem.W.findIn K (.ref C) "__getattribute__" = some (some (.builtin "BaseException.__getattribute__"))) (e3 : PySem.W.findIn K (.ref C) "__getattr__" = some none) (e4 : PySem.W.findIn K (.ref C) f = some none)
    (e5 : PySem.W.findIn K (.ref C) "__init__" = some (some (.ref fI))) (e6 : PySem.W.typeIn K (.ref fI) = some (.type "function")) (e7 : PySem.W.keepIn K (.ref C) = true) (e8 : PySem.W.subIn K (.ref C) (.type "BaseException") = some true) (e9 : PySem.W.typeIn K (.ref C) = some (.type "type")) (e10 : PySem.W.hasDictIn K C = true)
    (e11 : PySem.W.isClsIn K C = true) (e12 : PySem.W.subIn K (.ref C) (.ref C) = some true) (e13 : PySem.W.subIn K (.ref C) (.ref W) = some true) (e14 : PySem.W.typeIn K (.ref W) = some (.type "type")) (e15 : PySem.W.isClsIn K W = true) (e16 : PySem.W.subIn K (.ref C) (.type "ValueError") = some true)
    (e17 : PySem.W.findIn K (.ref C) "__class__" = some (some (.builtin "object.__class__"))) (e18 : PySem.W.specialIn K (.builtin "object.__class__") "__get__" = some (some (.builtin "getset_descriptor.__get__"))) (e19 : PySem.W.takesIn K (.builtin "object.__class__") = some true) (e20 : PySem.W.mroIn K C (.type "object") = some true) : OwnE K mg x f C fI W :=
  { gC := PySem.W.mg_of X G eC, oex := ⟨⟨nm, q, N, bs, _, sn, sub, ab, col, dd, m0, m1, m2, m3, m5, eX, rfl⟩, e1, e8, e9, e7⟩, xf := ⟨e2, e3, e8, e10⟩, is := ⟨e2, e3, e8, e10, e17, e18, e19, e20⟩, cl := e11, noF := e4, iC := e5, tI := e6, exm := PySem.W.exm_ref e8 e10 e9 e12, kW := kit_ref e15 e14 e13, kV := kit_val e16 }
/-- self.f = v, at an exception that is being made -/
def spInit (K : PySem.W.Frag) (f : Str) (C : Addr) : Sp := fun vs H Q _ => ∃ (a : Addr) (v : V), vs = [.ref a, v] ∧ OexC K C ∧ PySem.W.findIn K (.ref C) f = some none ∧ H a = some (exo a C none) ∧
  ∀ dx, H dx = none → dx ≠ a → Q .non (upd (upd H dx (exd dx [(f, v)])) a (exo a C (some dx)))
/-- the i-th statement of a class's body -/
def inCls : Stmt → Nat → Stmt
  | .ClassDef _ _ _ body _ _ _ _ _ _ _, i => body.getD i (.Pass ⟨0, 0, 0, 0⟩)
  | _, _ => .Pass ⟨0, 0, 0, 0⟩
end KG

set_option maxHeartbeats 1000000
/-! what a generated proof is given: classes, methods, makers -/
namespace DN
open PySem PySem.Spec PyProof.Rows L2 KG
/-- the class Number -/
structure NumC (K : PySem.W.Frag) (mg : Str → Option Value) (C : Addr) : Prop where
  nt : NoAttr K C "tower"
  ne : NoAttr K C "element"
  g : mg "Number" = some (.ref C)
  is : IsT K C
  sf : PySem.W.selfFirst K C = true
/-- another class with its fields -/
structure ClsC (K : PySem.W.Frag) (C : Addr) (fs : List Str) : Prop where
  cl : Cls K C
  na : ∀ f ∈ fs, NoAttr K C f
theorem _root_.KG.MCal.op {P : Program} {w : World} {K : PySem.W.Frag} {mg : Str → Option Value} {base : Heap} {k : Nat} {C : Addr} {m : Str} {ps : List Str} {sp : Sp} (c : MCal P w K mg base k C m ps sp) : OpM K C m c.f := ⟨c.m.at_, c.m.fn⟩
/-- objects of class number t may be made -/
structure MkC (P : Program) (w : World) (K : PySem.W.Frag) (mg : Str → Option Value) (base : Heap) (k : Nat) (S : CS) (t : Nat) (x : Str) (ps : List Str) (g : FnS) where
  j : Nat
  lt : j + 1 ≤ k
  f : Addr
  fd : FuncData
  ok : FnOk P w K mg base CX0 j f fd ps (SpS S g)
  b : Binds K fd ps []
  m : Mk K (S.cl t) f
  h : mg x = some (.ref (S.cl t))
/-- .. with one argument left out, an int -/
structure MkD (P : Program) (w : World) (K : PySem.W.Frag) (mg : Str → Option Value) (base : Heap) (k : Nat) (S : CS) (t : Nat) (x : Str) (ps : List Str) (g : FnS) (i : Int) extends MkC P w K mg base k S t x ps g where
  ds : List Value
  bd : Binds K fd ps ds
  vd : Vals [V.int i] ds
theorem int1_rp {C : Addr} {i : Int} : ∀ (A : List Addr) (G : Hp), RpAll C A G [V.int i] [D.int i] := fun _ _ => .cons (.int i) .nil
section
variable {P : Program} {w : World} {K : PySem.W.Frag} {mg : Str → Option Value} {base : Heap}
theorem fnS_denD {Z : CS} {x qual : Str} {st : Stmt} {dvs : List V} {kws : List (Str × V)} {f : Addr} {fd : FuncData} {N ps : List Str} {k : Nat} {den : ZS} (F : FunD K x qual (defArgs st) (defBody st) (defScope st) dvs kws f fd) (S : FnScope N ps (defScope st))
    (hbody : ∀ (cdv : Value) (A : Around) (outer : List Env) (s : Shared) (H : Hp) (E : XK), Room k (A.deeper (envOfC qual (defScope st) s.heap.objs.size f cdv)) →
      PSs (cxOf CX0 P w K mg base N qual (defScope st) f cdv A outer s H E) (defBody st) (tZ Z den)) : FnOk P w K mg base CX0 (k + 1) f fd ps (SpS Z (runS ps.length N.length den)) := by
  have hpl : ps.length ≤ N.length := by have := congrArg List.length S.pre; rw [List.length_take] at this; omega
  refine F.ok S (fun vs H Q E h => ?_) (fun cdv A outer s H vs Q E hr h => ⟨_, hbody cdv A outer s H E hr, ?_⟩)
  · obtain ⟨A, μ, G, ds, d, μ', W, r, hd, _⟩ := h
    unfold runS at hd
    split at hd
    · rename_i hl
      rw [r.len]
      exact beq_iff_eq.mp hl
    · cases hd
  · obtain ⟨A, μ, G, ds, d, μ', W, r, hd, fin⟩ := h
    unfold runS at hd
    split at hd
    · rename_i hl
      obtain ⟨⟨o, μ1⟩, h1, hd⟩ := obind hd
      refine ⟨A, G, H, A, μ, G, _, o, μ1, .refl, start_en W.cel r (by rw [r.len, beq_iff_eq.mp hl]; exact hpl), W, h1, ?_⟩
      cases o with
      | rt d' => cases hd; exact fun A1 G1 H1 v x1 W1 r1 => fin A1 G1 H1 v x1 W1 r1
      | nx ρ => cases hd; exact fun A1 G1 H1 σ1 p1 s1 x1 en1 W1 => fin A1 G1 H1 .non x1 W1 .non
      | bk ρ => cases hd
      | ct ρ => cases hd
    · cases hd
/-- a promise for plain values is one for any world -/
theorem spS_of {S : CS} {f : Addr} {fd : FuncData} {ps : List Str} {k : Nat} {g : List D → Option D} (F : FnOk P w K mg base CX0 k f fd ps (SpD S.cls g)) : FnOk P w K mg base CX0 k f fd ps (SpS S fun ds μ => (g ds).bind fun d => some (d, μ)) := F.imp fun vs H Q E ⟨A, μ, G, ds, d, μ', W, r, hd, k⟩ => by
  obtain ⟨d', h1, hd⟩ := obind hd
  obtain ⟨rfl, rfl⟩ : d' = d ∧ μ = μ' := by cases hd; exact ⟨rfl, rfl⟩
  exact ⟨A, G, ds, d', W.cel, W.same, r, h1, fun G' H' v x r => k A G' H' v (.of x) (W.ext x) r⟩
end
/-- what the proofs over Numbers and cells are given -/
structure CtxN (P : Program) (w : World) (K : PySem.W.Frag) (mg : Str → Option Value) (S : CS) : Prop where
  hP : P = S.P
  hw : w = S.w
  hK : K = S.K
  N : NumC K mg S.cls
  h0 : S.cl 0 = S.cls
theorem NumC.cls {K : PySem.W.Frag} {mg : Str → Option Value} {C : Addr} (n : NumC K mg C) : Cls K C := n.is.cl
section
variable {X : Cx} {S : CS} {pos : Pos}
theorem zs_drop {e : Expr} {de : SD D} (h : PS X (.Expr e pos) (tDrop (zD S de))) : PS X (.Expr e pos) (tZ S (yDrop de)) := ps_to h z_drop
variable {CX : CXT} {k : Nat} {f : Addr} {fd : FuncData} {ps : List Str} {E : XK} {x : Str} {p : Pos} {e : Expr} {es : List Expr}
def zMakeD (t : Nat) (g : FnS) (das : SD (List D)) (dvs : List D) : SD D := fun ρ μ => (das ρ μ).bind fun p => (g (.ref p.2.length :: (p.1 ++ dvs)) (p.2 ++ [.ins t []])).bind fun r => match r.1 with
  | .non => some (.ref p.2.length, r.2)
  | _ => none
theorem zn_makeD {t : Nat} {g : FnS} {das : SD (List D)} {dvs : List D} {dv : List V} {dval : List Value} (M : Mk X.K (S.cl t) f) (F : FnOk X.prog X.w X.K X.mg X.base CX k f fd ps (SpS S g)) (hr : Room (k + 1) X.A) (hg : Gl X x) (hm : X.mg x = some (.ref (S.cl t)))
    (hb : Binds X.K fd ps dval) (hdv : Vals dv dval) (hdr : ∀ A G, RpAll S.cls A G dv dvs) (hx : Passes CX X E)
    (ha : PA X (e :: es) (zA S das)) (hdb : (x == ("__debug__" : Str)) = false := by decide) (he : starEach (e :: es) X.env = (false, eval e X.env) :: starEach es X.env := by rfl) (hpl : (backTo pos (starEach es X.env)).any (·.1) = false := by rfl) :
    PE X (.Call (.Name x p) (e :: es) [] pos) (zD S (zMakeD t g das dvs)) := pe_to (pe_make M F hr hg hm hb hdv hx ha hdb he hpl) fun σ H Q ⟨A, μ, H0, G, ρ, d, μ', en, W, hd, k⟩ => by
  obtain ⟨⟨ds, μ1⟩, h1, hd⟩ := obind hd
  exact ⟨A, μ, H0, G, ρ, ds, μ1, en, W, h1, fun A1 G1 H1 vs x1 W1 r1 a dx ha hdx ne => by
    have := make_ok W1 (r1.append (hdr A1 G1)) hd (fun A' G' H' v x2 W2 r2 => k A' G' H' v (x1.trans x2) W2 r2) (E := E) a dx ha hdx ne
    rwa [List.append_nil] at this⟩
end
section
variable {X : Cx} {S : CS} {pos : Pos} {a b : Expr} {da db : SD D}
theorem zn_shl (ha : PE X a (zD S da)) (hb : PE X b (zD S db)) : PE X (.BinOp a .LShift b pos) (zD S (z2 fShl da db)) := zn_op (is_i2 cShl_ok) op_shlW ha hb
end
end DN

/-! whole numbers as words: what is written for an int, and which words are read -/
namespace KG
open PySem PySem.Spec PyProof.Rows L2
open NumText (AllDigits digitsVal)
def numS (n : Int) : Str := toString n
def dec : List Nat := ("0123456789" : Str).cps.toList
def digs (x : Str) : Str := if cutS x none (some 1) = "-" then cutS x (some 1) none else x
def isWhole (x : Str) : Bool := decide (1 ≤ (digs x).length) && decide ((digs x).length ≤ 30) && (digs x).cps.toList.all (fun c => decide (c ∈ dec)) && (decide (x = "0") || decide ((digs x).cps[0]? ≠ some 48))
theorem cutS_le (z : Str) (lo hi : Option Int) : (cutS z lo hi).length ≤ z.length := by
  show ((z.cps.toList.drop _).take _).toArray.size ≤ z.cps.size
  rw [List.size_toArray, List.length_take, List.length_drop, Array.length_toList]
  omega
theorem digs_le (x : Str) : (digs x).length ≤ x.length := by
  unfold digs
  split
  · exact cutS_le _ _ _
  · exact Nat.le_refl _
/-! signs -/
def bodyL : List Nat → List Nat
  | 45 :: r => r
  | l => l
theorem tl_cut1 (x : Str) : TL.tl (cutS x none (some 1)) = (TL.tl x).take 1 := by
  show ((x.cps.toList.drop 0).take (min 1 x.length - 0)) = _
  rw [List.drop_zero, Nat.sub_zero]
  show x.cps.toList.take (min 1 x.cps.size) = x.cps.toList.take 1
  rw [← Array.length_toList]
  rcases x.cps.toList with _ | ⟨a, r⟩
  · rfl
  · rw [List.length_cons, Nat.min_eq_left (by omega)]
theorem tl_from1 (x : Str) : TL.tl (cutS x (some 1) none) = (TL.tl x).drop 1 := by
  show ((x.cps.toList.drop (min 1 x.length)).take (x.length - min 1 x.length)) = _
  show ((x.cps.toList.drop (min 1 x.cps.size)).take (x.cps.size - min 1 x.cps.size)) = x.cps.toList.drop 1
  rw [← Array.length_toList]
  rcases x.cps.toList with _ | ⟨a, r⟩
  · rfl
  · rw [List.length_cons, Nat.min_eq_left (by omega)]
    exact List.take_of_length_le (by rw [List.length_drop, List.length_cons]; omega)
theorem tl_minus : TL.tl "-" = [45] := by decide +kernel
theorem tl_zero : TL.tl "0" = [48] := by decide +kernel
theorem tl_digs (x : Str) : TL.tl (digs x) = bodyL (TL.tl x) := by
  unfold digs
  by_cases h : cutS x none (some 1) = "-"
  · rw [if_pos h, tl_from1]
    have e := congrArg TL.tl h
    rw [tl_cut1, tl_minus] at e
    rcases hx : TL.tl x with _ | ⟨a, r⟩
    · rfl
    · rw [hx] at e
      obtain rfl : a = 45 := (List.cons.inj e).1
      rfl
  · rw [if_neg h]
    rcases hx : TL.tl x with _ | ⟨a, r⟩
    · rfl
    · have na : a ≠ 45 := fun z => h (TL.ext_tl (by rw [tl_cut1, hx, z, tl_minus]; rfl))
      unfold bodyL
      split
      · rename_i q
        exact absurd (List.cons.inj q).1 na
      · rfl
theorem mem_dec {c : Nat} : c ∈ dec ↔ 48 ≤ c ∧ c ≤ 57 := by
  rw [show dec = [48, 49, 50, 51, 52, 53, 54, 55, 56, 57] by decide +kernel]
  constructor
  · intro h
    simp at h
    omega
  · intro h
    simp
    omega
def canon (l : List Nat) : Prop := bodyL l ≠ [] ∧ (bodyL l).length ≤ 30 ∧ AllDigits (bodyL l) ∧ (l = [48] ∨ (bodyL l).head? ≠ some 48)
theorem whole_iff (x : Str) : isWhole x = true ↔ canon (TL.tl x) := by
  have l1 : (digs x).length = (bodyL (TL.tl x)).length := by rw [TL.len_tl, tl_digs]
  have l2 : (digs x).cps.toList = bodyL (TL.tl x) := tl_digs x
  have l3 : (digs x).cps[0]? = (bodyL (TL.tl x)).head? := by rw [← Array.getElem?_toList, l2, List.head?_eq_getElem?]
  have l4 : x = "0" ↔ TL.tl x = [48] := ⟨fun h => by rw [h, tl_zero], fun h => TL.ext_tl (by rw [h, tl_zero])⟩
  unfold isWhole canon
  rw [l1, l2, l3]
  simp only [Bool.and_eq_true, Bool.or_eq_true, decide_eq_true_eq, List.all_eq_true, l4]
  constructor
  · rintro ⟨⟨⟨h1, h2⟩, h3⟩, h4⟩
    exact ⟨fun e => by rw [e] at h1; exact absurd h1 (by decide), h2, fun c hc => mem_dec.mp (h3 c hc), h4⟩
  · rintro ⟨h1, h2, h3, h4⟩
    exact ⟨⟨⟨List.length_pos_iff.mpr h1, h2⟩, fun c hc => mem_dec.mpr (h3 c hc)⟩, h4⟩
theorem val_snoc (l : List Nat) (c : Nat) : digitsVal (l ++ [c]) = digitsVal l * 10 + (c - 48) := by
  unfold digitsVal
  rw [List.foldl_append]; rfl
theorem val_mono : ∀ (l : List Nat) (a : Nat), a ≤ l.foldl (fun acc c => acc * 10 + (c - 48)) a
  | [], _ => Nat.le_refl _
  | c :: r, a => Nat.le_trans (by omega) (val_mono r (a * 10 + (c - 48)))
theorem val_pos {l : List Nat} (h : AllDigits l) (h1 : l ≠ []) (h2 : l.head? ≠ some 48) : 1 ≤ digitsVal l := by
  cases l with
  | nil => exact absurd rfl h1
  | cons c r =>
    have hc := h.head
    have : c ≠ 48 := fun z => h2 (by rw [z]; rfl)
    unfold digitsVal
    rw [List.foldl_cons]
    exact Nat.le_trans (by omega) (val_mono r _)
theorem val_lt : ∀ (n : Nat) (l : List Nat), l.length ≤ n → AllDigits l → digitsVal l < 10 ^ n := by
  intro n
  induction n with
  | zero =>
    intro l hl h
    have : l = [] := List.length_eq_zero_iff.mp (by omega)
    rw [this]; decide
  | succ n ih =>
    intro l hl h
    by_cases e : l = []
    · rw [e]; exact Nat.pos_of_ne_zero (by simp [digitsVal])
    · have hd := List.dropLast_concat_getLast e
      have hc := h (l.getLast e) (List.getLast_mem e)
      have h1 := ih l.dropLast (by rw [List.length_dropLast]; omega) (fun c hc => h c (List.dropLast_subset _ hc))
      rw [← hd, val_snoc, Nat.pow_succ]
      omega
theorem num_val : ∀ (n : Nat) (l : List Nat), l.length ≤ n → AllDigits l → l ≠ [] → (l = [48] ∨ l.head? ≠ some 48) → TL.numL (digitsVal l) = l := by
  intro n
  induction n with
  | zero =>
    intro l hl h h1
    exact absurd (List.length_eq_zero_iff.mp (by omega)) h1
  | succ n ih =>
    intro l hl h h1 h2
    have hd := List.dropLast_concat_getLast h1
    have hc := h (l.getLast h1) (List.getLast_mem h1)
    generalize l.getLast h1 = c at hd hc
    generalize hr : l.dropLast = r at hd
    have lr : r.length ≤ n := by rw [← hr, List.length_dropLast]; omega
    have hrd : AllDigits r := fun d q => h d (by rw [← hd]; exact List.mem_append_left _ q)
    rw [← hd, val_snoc]
    cases r with
    | nil =>
      show TL.numL (0 * 10 + (c - 48)) = [c]
      rw [TL.numL_lt (by omega)]
      congr 1; omega
    | cons a q =>
      have h3 : (a :: q).head? ≠ some 48 := by
        rcases h2 with h2 | h2
        · rw [← hd] at h2
          exact absurd (congrArg List.length h2) (by simp)
        · rw [← hd] at h2
          exact h2
      have hp := val_pos hrd (by simp) h3
      rw [TL.numL_step (by omega), show (digitsVal (a :: q) * 10 + (c - 48)) / 10 = digitsVal (a :: q) by omega, show 48 + (digitsVal (a :: q) * 10 + (c - 48)) % 10 = c by omega, ih _ lr hrd (by simp) (.inr h3)]
def signs (n : Int) : List Nat := if n < 0 then 45 :: TL.numL n.natAbs else TL.numL n.natAbs
theorem tl_numS (n : Int) : TL.tl (numS n) = signs n := by
  unfold signs
  by_cases h : n < 0
  · rw [if_pos h]
    obtain ⟨m, rfl⟩ : ∃ m : Nat, n = Int.negSucc m := ⟨(-n - 1).toNat, by omega⟩
    have e : toString (Int.negSucc m) = "-" ++ toString (((m + 1 : Nat) : Int)) := rfl
    show (Str.ofString (toString (Int.negSucc m))).cps.toList = _
    rw [e]
    have e2 : ∀ a b : String, (Str.ofString (a ++ b)).cps.toList = (Str.ofString a).cps.toList ++ (Str.ofString b).cps.toList := fun a b => by
      rw [Str.ofString_eq_toList, Str.ofString_eq_toList, Str.ofString_eq_toList]
      show (a ++ b).toList.map Char.toNat = a.toList.map Char.toNat ++ b.toList.map Char.toNat
      rw [String.toList_append, List.map_append]
    rw [e2]
    show _ ++ TL.tl (Str.ofString (toString (((m + 1 : Nat) : Int)))) = _
    rw [TL.tl_num]; rfl
  · rw [if_neg h]
    obtain ⟨m, rfl⟩ := Int.eq_ofNat_of_zero_le (show 0 ≤ n by omega)
    exact TL.tl_num m
theorem numL_head {n : Nat} (h : n ≠ 0) : (TL.numL n).head? ≠ some 48 := by
  induction n using Nat.strongRecOn with
  | _ n ih =>
    by_cases h1 : n < 10
    · rw [TL.numL_lt h1]
      intro z
      have := Option.some.inj z
      omega
    · rw [TL.numL_step (by omega), List.head?_append]
      have := ih (n / 10) (by omega) (by omega)
      cases hq : (TL.numL (n / 10)).head? with
      | none => exact absurd (List.head?_eq_none_iff.mp hq) (TL.numL_ne _)
      | some z =>
        rw [hq] at this
        exact this
theorem bodyL_num (n : Nat) : bodyL (TL.numL n) = TL.numL n := by
  unfold bodyL
  split
  · rename_i r q
    exact absurd (show 45 ∈ TL.numL n by rw [q]; exact List.mem_cons_self) (TL.numL_free (.inl (by decide)))
  · rfl
theorem body_signs (n : Int) : bodyL (signs n) = TL.numL n.natAbs := by
  unfold signs
  by_cases h : n < 0
  · rw [if_pos h]; rfl
  · rw [if_neg h]; exact bodyL_num _
theorem canon_signs {n : Int} (h : n.natAbs < 10 ^ 30) : canon (signs n) := by
  unfold canon
  rw [body_signs]
  refine ⟨TL.numL_ne _, TL.numL_len (by decide) h, TL.numL_digits _, ?_⟩
  by_cases h0 : n = 0
  · rw [h0]; exact .inl (by decide +kernel)
  · exact .inr (numL_head (by omega))
theorem whole_num {n : Int} (h : n.natAbs < 10 ^ 30) : isWhole (numS n) = true := (whole_iff _).mpr (by rw [tl_numS]; exact canon_signs h)
theorem canon_read {x : Str} (h : isWhole x = true) : ∃ n : Int, intText? x = some n ∧ numS n = x ∧ n.natAbs < 10 ^ 30 ∧ x.length ≤ 31 := by
  obtain ⟨h1, h2, h3, h4⟩ := (whole_iff x).mp h
  have hv := val_lt 30 _ h2 h3
  by_cases hm : ∃ r, TL.tl x = 45 :: r
  · obtain ⟨r, hr⟩ := hm
    have hb : bodyL (TL.tl x) = r := by rw [hr]; rfl
    rw [hb] at h1 h2 h3 h4 hv
    have h4' : r.head? ≠ some 48 := by
      rcases h4 with h4 | h4
      · rw [hr] at h4
        exact absurd (List.cons.inj h4).1 (by decide)
      · exact h4
    have lx : x.length = r.length + 1 := by rw [TL.len_tl, hr, List.length_cons]
    have hp := val_pos h3 h1 h4'
    refine ⟨_, intText_neg hr h3 h1 (by omega), TL.ext_tl ?_, by omega, by omega⟩
    rw [tl_numS, signs, if_pos (by omega), hr, show (-((digitsVal r : Nat) : Int)).natAbs = digitsVal r by omega, num_val 30 r h2 h3 h1 (.inr h4')]
  · have hb : bodyL (TL.tl x) = TL.tl x := by
      unfold bodyL
      split
      · rename_i r q
        exact absurd ⟨r, q⟩ hm
      · rfl
    rw [hb] at h1 h2 h3 h4 hv
    have lx : x.length = (TL.tl x).length := TL.len_tl x
    refine ⟨_, intText_digits h3 h1 (by omega), TL.ext_tl ?_, by show ((digitsVal (TL.tl x) : Nat) : Int).natAbs < _; omega, by omega⟩
    rw [tl_numS, signs, if_neg (by show ¬ ((digitsVal (TL.tl x) : Nat) : Int) < 0; omega)]
    show TL.numL (digitsVal (TL.tl x)) = _
    exact num_val 30 _ h2 h3 h1 h4
theorem numS_inj {m n : Int} (h : numS m = numS n) : m = n := by
  have e := congrArg TL.tl h
  rw [tl_numS, tl_numS] at e
  have e2 := congrArg bodyL e
  rw [body_signs, body_signs] at e2
  have e3 := TL.numL_inj e2
  unfold signs at e
  by_cases h1 : m < 0 <;> by_cases h2 : n < 0
  · omega
  · rw [if_pos h1, if_neg h2] at e
    exact absurd (show 45 ∈ TL.numL n.natAbs by rw [← e]; exact List.mem_cons_self) (TL.numL_free (.inl (by decide)))
  · rw [if_neg h1, if_pos h2] at e
    exact absurd (show 45 ∈ TL.numL m.natAbs by rw [e]; exact List.mem_cons_self) (TL.numL_free (.inl (by decide)))
  · omega
theorem read_num {n : Int} (h : n.natAbs < 10 ^ 30) : intText? (numS n) = some n := by
  obtain ⟨m, h1, h2, _⟩ := canon_read (whole_num h)
  rw [h1, numS_inj h2]
theorem removeprefix_digs (x : Str) : Txt.removeprefix x "-" = digs x := by
  apply TL.ext_tl
  rw [tl_digs]
  unfold Txt.removeprefix
  have lm : ("-" : Str).length = 1 := by decide +kernel
  have es : Builtin.Str.subAt x "-" 0 = decide ((TL.tl x).take 1 = [45]) := by
    rw [StrLaws.subAt_eq, List.drop_zero, lm]
    show ((TL.tl x).take 1 == TL.tl "-") = _
    rw [tl_minus, Bool.eq_iff_iff]; simp
  rw [es, lm]
  rcases hx : TL.tl x with _ | ⟨a, r⟩
  · show TL.tl x = []
    exact hx
  · have lx : x.length = r.length + 1 := by rw [TL.len_tl, hx, List.length_cons]
    by_cases h : a = 45
    · subst h
      rw [if_pos (by simp)]
      show TL.tl (if x.length - 1 == x.length then x else Builtin.Str.strSub x 1 x.length) = r
      rw [if_neg (by rw [beq_iff_eq]; omega)]
      show (Builtin.Str.strSub x 1 x.length).cps.toList = r
      rw [StrLaws.strSub_toList]
      show ((TL.tl x).drop 1).take (x.length - 1) = r
      rw [hx, lx]
      exact List.take_of_length_le (by simp)
    · rw [if_neg (by simp [h])]
      show TL.tl x = bodyL (a :: r)
      rw [hx]
      unfold bodyL
      split
      · rename_i q
        exact absurd (List.cons.inj q).1 h
      · rfl
end KG

set_option maxHeartbeats 1000000
/-! d.get(int): d a dict of the module with ints for keys and texts for values -/
namespace DN
open PySem PySem.Spec PyProof.Rows L2 KG
inductive EsI : List DictEntry → List (Int × Str) → Prop
  | nil : EsI [] []
  | cons {k : Int} {v : Str} {t u : Tok} {l : List DictEntry} {r : List (Int × Str)} : EsI l r → EsI (⟨hashInt k, .int k t, .str v u⟩ :: l) ((k, v) :: r)
def KDj (K : PySem.W.Frag) (w : World) (d : Addr) (kvs : List (Int × Str)) : Prop := ∃ es n, K.lookup d = some ⟨.type "dict", none, .dict es n, #[]⟩ ∧ EsI es.toList kvs ∧ (d == sysModules) = false
theorem EsI.key {l : List DictEntry} {r : List (Int × Str)} (h : EsI l r) : ∀ e ∈ l, ∃ k t, e.key = .int k t ∧ e.hash = hashInt k := by
  induction h with
  | nil => intro e he; cases he
  | cons _ ih =>
    intro e he
    rcases List.mem_cons.mp he with rfl | he
    · exact ⟨_, _, rfl, rfl⟩
    · exact ih e he
theorem EsI.find {l : List DictEntry} {r : List (Int × Str)} (h : EsI l r) (z : Int) : ((r.lookup z = none ∧ (l.find? fun e => Value.isInt z e.key).map (·.val) = none) ∨ ∃ v u, r.lookup z = some v ∧ (l.find? fun e => Value.isInt z e.key).map (·.val) = some (.str v u)) := by
  induction h with
  | nil => exact .inl ⟨rfl, rfl⟩
  | @cons k v t u l r _ ih =>
    by_cases e : k = z
    · refine .inr ⟨v, u, ?_, ?_⟩
      · rw [List.lookup_cons, show (z == k) = true by rw [e]; exact beq_self_eq_true z]
      · rw [List.find?_cons, show Value.isInt z (Value.int k t) = true from by show (k == z) = true; rw [e]; exact beq_self_eq_true z]; rfl
    · have e1 : (z == k) = false := by rw [beq_eq_false_iff_ne]; exact fun q => e q.symm
      have e2 : (k == z) = false := by rw [beq_eq_false_iff_ne]; exact e
      rw [List.lookup_cons, e1, List.find?_cons, show Value.isInt z (Value.int k t) = false from e2]
      exact ih
def kjOr (kvs : List (Int × Str)) (z : Int) (d : V) : V := match kvs.lookup z with
  | some v => .str v
  | none => d
theorem KDj.found {K : PySem.W.Frag} {w : World} {d : Addr} {kvs : List (Int × Str)} (h : KDj K w d kvs) {X : Cx} {pins : List (Addr × Obj)} {σ : L2.St} {H : Hp} {s : Shared} (I : Inv X pins σ H s) (eK : X.K = K) (eW : X.w = w) (z : Int) :
    (d == sysModules) = false ∧ ∃ f, s.heap.MapOf (intKind X.prog X.w) d f ∧ (∀ (b : Value), Value.ref d = b → s.TypeIs b "dict" ∧ ∀ a, b = .ref a → ∃ ob, s.heap.get? a = some ob ∧ ob.dict = none) ∧ ∀ (df : V) (dv : Value), RelV df dv → RelV (kjOr kvs z df) ((f z).getD dv) := by
  subst eK eW
  obtain ⟨es, n, hl, he, low⟩ := h
  have hm : s.heap.MapOf (intKind X.prog X.w) d (fun k => findBy Value.isInt es k) := ⟨_, es, n, I.kIn _ _ hl, ⟨rfl, rfl, rfl⟩, rfl, fun e he' => by
    obtain ⟨x, t, e1, e2⟩ := he.key e (Array.mem_toList_iff.mpr he')
    exact ⟨x, by rw [e1]; exact intKind_is X.prog X.w x t, e2⟩, fun _ => rfl⟩
  refine ⟨low, _, hm, ?_, ?_⟩
  · rintro b rfl
    refine ⟨hm.typeIs, ?_⟩
    rintro a e
    cases e
    exact ⟨_, I.kIn _ _ hl, rfl⟩
  · intro df dv hd
    show RelV (kjOr kvs z df) (((es.find? fun e => Value.isInt z e.key).map (·.val)).getD dv)
    rw [← Array.find?_toList]
    unfold kjOr
    rcases he.find z with ⟨e1, e2⟩ | ⟨v, u, e1, e2⟩
    · rw [e1, e2]; exact hd
    · rw [e1, e2]; exact ⟨u, rfl⟩
def tKGetJ (K : PySem.W.Frag) (w : World) (td ty : TE) : TE := fun σ H Q => td σ H fun x H1 => ∃ a kvs, x = .ref a ∧ KDj K w a kvs ∧ ty σ H1 fun y H2 => ∃ z, y = .int z ∧ Q (kjOr kvs z .non) H2
section
variable {X : Cx} {C : Addr} {pos : Pos}
theorem pe_kgetJ {o e : Expr} {apos cpos : Pos} {td ty : TE} (ho : PE X o td) (he : PE X e ty) (m : M1 X o "get" apos e cpos) : PE X (.Call (.Attribute o "get" apos) [e] [] cpos) (tKGetJ X.K X.w td ty) := by
  constructor
  intro pins s σ H Q I h
  refine wpAny_Call_method m.base m.few m.line PySem.F.plainAttrs_dict PySem.F.slot_dict_get PySem.F.type_dict_get (thn (ho.run pins s σ H _ I h) ?_)
  rintro u s1 ⟨x, H1, I1, rx, a, kvs, rfl, d, q1⟩
  cases (show u = Value.ref a from rx)
  obtain ⟨_, _, _, t1, _⟩ := d.found I1 rfl rfl 0
  obtain ⟨t1, t2⟩ := t1 _ rfl
  refine ⟨t1, t2, ?_⟩
  rw [m.trees]
  refine Calls.callWith_builtin rfl (Calls.evalArgs_plain (Calls.spliced_cons (thn (he.run pins s1 σ H1 _ I1 q1) ?_)))
  rintro iv s2 ⟨y, H2, I2, ry, z, rfl, q2⟩
  refine Calls.spliced_nil ?_
  obtain ⟨t, rfl⟩ := ry
  obtain ⟨low, f, hm, _, hv⟩ := d.found I2 rfl rfl z
  exact call_meetsIn PySem.F.slot_dict_get hm.typeIs PySem.F.entry_dict_get (PySem.F.args_dict_get_2 _ _) (meets_dict_get (intKind X.prog X.w) a (intKind_is X.prog X.w z t) low) ⟨f, hm, _, H2, I2.tok _, hv .non .none rfl, q2⟩
def fKGetI (kvs : List (Int × Str)) : D → Option D
  | .int z => some (match kvs.lookup z with
    | some v => .str v
    | none => .non)
  | _ => none
theorem dn_kgetI {e : Expr} {x : Str} {apos p : Pos} {aD : Addr} {kvs : List (Int × Str)} {da : List Sl → Option D} (hg : Gl X x) (hm : X.mg x = some (.ref aD)) (hd : KDj X.K X.w aD kvs) (he : PE X e (tD C da)) (m : M1 X (.Name x p) "get" apos e pos) (hdb : (x == ("__debug__" : Str)) = false := by decide) :
    PE X (.Call (.Attribute (.Name x p) "get" apos) [e] [] pos) (tD C (d1 (fKGetI kvs) da)) := pe_to (pe_kgetJ (pe_glob (v := .ref aD) hg hm rfl hdb) he m) fun σ H Q ⟨A, H0, G, ρ, d, en, sm, hdd, k⟩ => by
  obtain ⟨a, h1, hdd⟩ := obind hdd
  refine ⟨aD, kvs, rfl, hd, A, H0, G, ρ, a, en, sm, h1, fun G1 H1 v x1 r1 => ?_⟩
  cases a with
  | int z =>
    cases r1
    refine ⟨z, rfl, k G1 H1 _ x1 ?_⟩
    unfold kjOr
    have hdd : (match kvs.lookup z with
      | some v => D.str v
      | none => .non) = d := Option.some.inj hdd
    split
    · rename_i w e
      rw [e] at hdd
      subst hdd
      exact .str _
    · rename_i e
      rw [e] at hdd
      subst hdd
      exact .non
  | _ => cases hdd
theorem is_lenS : IsN C (fun xs H Q => ∃ x, xs = [.str x] ∧ x.length ≤ sizeLine ∧ Q (.int x.length) H) fLenS := fun A G H xs ds d Q sm r hd k => by
  unfold fLenS at hd
  split at hd
  · obtain ⟨hc, rfl⟩ := oif hd
    cases r with
    | cons r1 r2 => cases r2; cases r1; exact ⟨_, rfl, by have := of_decide_eq_true hc; rw [sizeLine_eq]; omega, k G H _ (.refl sm) (.int _)⟩
  · cases hd
end
section
variable {X : Cx} {C : Addr} {pos : Pos} {CX : CXT} {k : Nat} {f : Addr} {fd : FuncData} {ps : List Str} {g : List D → Option D} {E : XK} {x : Str} {p : Pos}
theorem dn_call0 (F : FnOk X.prog X.w X.K X.mg X.base CX k f fd ps (SpD C g)) (hr : Room k X.A) (hg : Gl X x) (hm : X.mg x = some (.ref f)) (hk : PySem.W.keepIn X.K (.ref f) = true) (hb : Binds X.K fd ps []) (hx : Passes CX X E) (hdb : (x == ("__debug__" : Str)) = false := by decide) :
    PE X (.Call (.Name x p) [] [] pos) (tD C (dCall g a0)) := pe_to (pe_call0 F hr hg hm hk hb .nil hx hdb) fun σ H Q ⟨A, H0, G, ρ, d, en, sm, hd, k⟩ => by
  obtain ⟨ds, h1, hd⟩ := obind hd
  cases h1
  exact ⟨A, G, [], d, en.cel, sm, .nil, hd, fun G' H' v x r => k G' H' v x r⟩
end
/-- a def that uses cells, and whose answer knows none of them -/
def pln (g : FnS) : List D → Option D := fun ds => if noRefs ds then (g ds []).bind fun r => if noRef r.1 then some r.1 else none else none
theorem spD_pln {S : CS} {g : FnS} {P : Program} {w : World} {K : PySem.W.Frag} {mg : Str → Option Value} {base : Heap} {k : Nat} {f : Addr} {fd : FuncData} {ps : List Str} (F : FnOk P w K mg base CX0 k f fd ps (SpS S g)) : FnOk P w K mg base CX0 k f fd ps (SpD S.cls (pln g)) := F.imp fun vs H Q E ⟨A, G, ds, d, cl, sm, r, hd, kk⟩ => by
  unfold pln at hd
  obtain ⟨hn, hd⟩ : noRefs ds = true ∧ ((g ds []).bind fun r => if noRef r.1 then some r.1 else none) = some d := by
    split at hd
    · rename_i hn; exact ⟨hn, hd⟩
    · cases hd
  obtain ⟨⟨q, μ'⟩, h2, hd⟩ := obind hd
  obtain ⟨hq, rfl⟩ := oif hd
  have W0 : Wd S [] [] G H := ⟨sm, rfl, List.nodup_nil, fun i a c h => by simp at h⟩
  exact ⟨[], [], G, ds, q, μ', W0, r.noRef hn, h2, fun A' G' H' v x3 W3 r3 => kk G' H' v ⟨x3.g, W3.same, fun b o q => x3.h b o (fun z => by cases z) q, x3.f⟩ (r3.noRef hq)⟩
/-! integer_of -/
def fWord : List D → Option D
  | [.str x] => if decide (x.length ≤ 100000) then (if isWhole x then (PySem.intText? x).bind fun n => if numS n = x then some (.int n) else none else some .non) else none
  | _ => none
end DN

set_option maxHeartbeats 1000000
/-! how the written defs, methods and classes of a law are handed on -/
namespace DN
open PySem PySem.Spec PyProof.Rows L2 KG
/-- a def of the text -/
structure DefE (K : PySem.W.Frag) (mg : Str → Option Value) (x : Str) (st : Stmt) (ps : List Str) where
  f : Addr
  fd : FuncData
  F : Fun K x x st f fd
  b : Binds K fd ps []
  m : mg x = some (.ref f)
  kp : PySem.W.keepIn K (.ref f) = true
/-- a method of a class -/
structure MetE (K : PySem.W.Frag) (C : Addr) (m qual : Str) (st : Stmt) (ps : List Str) where
  f : Addr
  fd : FuncData
  F : Fun K m qual st f fd
  b : Binds K fd ps []
  m : Meth K C m f
section
variable {P : Program} {w : World} {K : PySem.W.Frag} {mg : Str → Option Value} {base : Heap} {k j : Nat} {x m qual : Str} {st : Stmt} {ps : List Str} {sp : Sp} {C : Addr}
def DefE.cal (d : DefE K mg x st ps) (ok : FnOk P w K mg base CX0 k d.f d.fd ps sp) : Cal P w K mg base k x ps sp := ⟨d.f, d.fd, ok, d.b, d.m, d.kp⟩
def MetE.cal (d : MetE K C m qual st ps) (ok : FnOk P w K mg base CX0 k d.f d.fd ps sp) : MCal P w K mg base k C m ps sp := ⟨d.f, d.fd, ok, d.b, d.m⟩
def _root_.KG.Cal.lift (c : Cal P w K mg base j x ps sp) (h : j ≤ k) : Cal P w K mg base k x ps sp := { c with ok := c.ok.mono h }
def _root_.KG.MCal.lift (c : MCal P w K mg base j C m ps sp) (h : j ≤ k) : MCal P w K mg base k C m ps sp := { c with ok := c.ok.mono h }
def MkC.lift {S : CS} {t : Nat} {g : FnS} (c : MkC P w K mg base j S t x ps g) (h : j ≤ k) : MkC P w K mg base k S t x ps g := { c with lt := Nat.le_trans c.lt h }
def MkD.lift {S : CS} {t : Nat} {g : FnS} {i : Int} (c : MkD P w K mg base j S t x ps g i) (h : j ≤ k) : MkD P w K mg base k S t x ps g i := { c with lt := Nat.le_trans c.lt h }
theorem fn_none {f : Addr} {fd : FuncData} {g : List D → Option D} (h : ∀ ds, g ds = none) : FnOk P w K mg base CX0 k f fd ps (SpD C g) :=
  ⟨fun vs H Q E ⟨A, G, ds, d, _, _, _, hd, _⟩ => by rw [h] at hd; (cases hd), fun A outer s H args us vs Q E _ _ _ _ ⟨_, G, ds, d, _, _, _, hd, _⟩ => by rw [h] at hd; cases hd⟩
theorem def_mk {h : Heap} {f : Addr} {oc : Value} {od an : Option Addr} {osl : Array (Option Value)} {kV doc pm cdv ct : Value} (X : K.In h) (G : h.Ns mainGlobals mg) (a : PySem.W.nsIn K mainGlobals x = some (some (.ref f)))
    (l : K.lookup f = some ⟨oc, od, .func (PySem.W.fnOf x x (defArgs st) (defBody st) (defScope st) .none kV doc pm an cdv ct), osl⟩) (c : PySem.W.codeIn K cdv x = true) (kp : PySem.W.keepIn K (.ref f) = true)
    (h : ∀ (kV doc pm : Value) (an : Option Addr) (cdv ct : Value) (us : List Value), us.length = ps.length → bindArgs (PySem.W.fnOf x x (defArgs st) (defBody st) (defScope st) .none kV doc pm an cdv ct) ⟨us, []⟩ = pure (ps.zip us)) : Nonempty (DefE K mg x st ps) :=
  ⟨⟨f, _, fun_mk l c kp, (fun_mk l c kp).binds h, PySem.W.mg_of X G a, kp⟩⟩
theorem met_mk {f : Addr} {oc : Value} {od an : Option Addr} {osl : Array (Option Value)} {kV doc pm cdv ct : Value} (a : PySem.W.findIn K (.ref C) m = some (some (.ref f))) (fn : PySem.W.isFn K (.ref f) = true)
    (l : K.lookup f = some ⟨oc, od, .func (PySem.W.fnOf m qual (defArgs st) (defBody st) (defScope st) .none kV doc pm an cdv ct), osl⟩) (c : PySem.W.codeIn K cdv qual = true) (kp : PySem.W.keepIn K (.ref f) = true)
    (h : ∀ (kV doc pm : Value) (an : Option Addr) (cdv ct : Value) (us : List Value), us.length = ps.length → bindArgs (PySem.W.fnOf m qual (defArgs st) (defBody st) (defScope st) .none kV doc pm an cdv ct) ⟨us, []⟩ = pure (ps.zip us)) : Nonempty (MetE K C m qual st ps) :=
  ⟨⟨f, _, fun_mk l c kp, (fun_mk l c kp).binds h, ⟨a, fn, kp⟩⟩⟩
/-- what a law's def promises: True -/
def splaw (K : PySem.W.Frag) : Sp := fun vs H Q _ => ∃ (a : Addr) (ns : List Int), vs = [.ref a] ∧ SqL K H a (ns.map V.int) ∧ ns.length ≤ 63 ∧ ∀ H', Q (.bl true) H'
end
end DN

/-! the addresses that a head's facts need, each once -/
namespace DN
open PySem PySem.Spec PyProof.Rows L2
inductive MT where
  | nil
  | node (b : Bool) (l r : MT)
def MT.has : MT → Nat → Bool
  | .nil, _ => false
  | .node b l r, i => match Nat.beq i 0 with
    | true => b
    | false => match Nat.beq (i % 2) 1 with
      | true => l.has (i / 2)
      | false => r.has (i / 2 - 1)
def MT.ins : Nat → MT → Nat → MT
  | 0, t, _ => t
  | f + 1, .nil, i => match Nat.beq i 0 with
    | true => .node true .nil .nil
    | false => match Nat.beq (i % 2) 1 with
      | true => .node false (MT.ins f .nil (i / 2)) .nil
      | false => .node false .nil (MT.ins f .nil (i / 2 - 1))
  | f + 1, .node b l r, i => match Nat.beq i 0 with
    | true => .node true l r
    | false => match Nat.beq (i % 2) 1 with
      | true => .node b (MT.ins f l (i / 2)) r
      | false => .node b l (MT.ins f r (i / 2 - 1))
def visitB (lo : Nat) : List Addr → MT → List Addr → (MT → List Addr → List Addr) → List Addr
  | [], t, nw, k => k t nw
  | a :: r, t, nw, k => match Nat.ble lo a with
    | true => (match t.has a with
      | true => visitB lo r t nw k
      | false => visitB lo r (t.ins 24 a) (a :: nw) k)
    | false => visitB lo r t nw k
def frontB (lo : Nat) (g : Addr → Option Obj) : List Addr → MT → List Addr → (MT → List Addr → List Addr) → List Addr
  | [], t, nw, k => k t nw
  | a :: r, t, nw, k => match g a with
    | some o => visitB lo (He.refsD o) t nw fun t nw => frontB lo g r t nw k
    | none => frontB lo g r t nw k
def bfsB (lo : Nat) (g : Addr → Option Obj) : Nat → List Addr → MT → List Addr
  | 0, fr, _ => fr
  | n + 1, fr, t => fr ++ frontB lo g fr t [] fun t nw => bfsB lo g n nw t
def adrB (g : Addr → Option Obj) (n : Nat) : List Addr := bfsB 0 g n [mainGlobals] (MT.ins 24 .nil mainGlobals)
end DN

set_option maxHeartbeats 1000000
/-! a head by facts, for defs, methods, classes and tables -/
namespace DN
open PySem PySem.Spec PyProof.Rows L2 KG
def entI (e : DictEntry) : Option (Str × Int × Int) := match e.key, e.val with
  | .str x _, .int v _ => some (x, e.hash, v)
  | _, _ => none
def entJ (e : DictEntry) : Option (Int × Int × Str) := match e.key, e.val with
  | .int x _, .str v _ => some (x, e.hash, v)
  | _, _ => none
def tabOf (K : PySem.W.Frag) (a : Addr) : Option (List DictEntry) := match K.lookup a with
  | some ⟨.type c, none, .dict es _, sl⟩ => (match decide (c = "dict") && (sl.isEmpty && !(a == sysModules)) with
    | true => some es.toList
    | false => none)
  | _ => none
theorem tabOf_ok {K : PySem.W.Frag} {a : Addr} {l : List DictEntry} (h : tabOf K a = some l) : ∃ es n, K.lookup a = some ⟨.type "dict", none, .dict es n, #[]⟩ ∧ es.toList = l ∧ (a == sysModules) = false := by
  unfold tabOf at h
  split at h
  · rename_i c es n sl q
    split at h
    · rename_i z
      obtain ⟨z1, z2⟩ := He.ba z
      obtain ⟨z3, z4⟩ := He.ba z2
      have e1 : c = "dict" := of_decide_eq_true z1
      have e2 : sl = #[] := Array.isEmpty_iff.mp z3
      subst e1 e2
      cases h
      exact ⟨es, n, q, rfl, by cases y : a == sysModules with
        | false => rfl
        | true => rw [y] at z4; cases z4⟩
    · cases h
  · cases h
def tabI (K : PySem.W.Frag) (a : Addr) : Option (List (Option (Str × Int × Int))) := (tabOf K a).map fun l => l.map entI
def valI (P : Params) (kvs : List (Str × Int)) : List (Option (Str × Int × Int)) := kvs.map fun q => some (q.1, PyData.keyHash P q.1, q.2)
theorem esAt_of {P : Params} : ∀ {l : List DictEntry} {kvs : List (Str × Int)}, l.map entI = valI P kvs → EsAt P l kvs
  | [], [], _ => .nil
  | [], _ :: _, h => by cases h
  | _ :: _, [], h => by cases h
  | ⟨hs, k, v⟩ :: r, (x, i) :: kvs, h => by
    have h1 : entI ⟨hs, k, v⟩ :: r.map entI = some (x, PyData.keyHash P x, i) :: valI P kvs := h
    injection h1 with h2 h3
    have ih := esAt_of h3
    unfold entI at h2
    split at h2
    · rename_i a b c d q1 q2
      simp only at q1 q2 h2
      subst q1 q2
      simp only [Option.some.injEq, Prod.mk.injEq] at h2
      obtain ⟨e1, e2, e3⟩ := h2
      subst e1 e3
      rw [show hs = _ from e2]
      exact .cons ih
    · cases h2
theorem tabI_ok {K : PySem.W.Frag} {w : World} {a : Addr} {kvs : List (Str × Int)} (h : tabI K a = some (valI w.params kvs)) : KDi K w a kvs := by
  unfold tabI at h
  rw [Option.map_eq_some_iff] at h
  obtain ⟨l, h1, h2⟩ := h
  obtain ⟨es, n, q, e, s⟩ := tabOf_ok h1
  exact ⟨es, n, q, by rw [e]; exact esAt_of h2, s⟩
def tabJ (K : PySem.W.Frag) (a : Addr) (kvs : List (Int × Str)) : Bool := decide ((tabOf K a).map (fun l => l.map entJ) = some (kvs.map fun q => some (q.1, hashInt q.1, q.2)))
theorem esI_of : ∀ {l : List DictEntry} {kvs : List (Int × Str)}, l.map entJ = kvs.map (fun q => some (q.1, hashInt q.1, q.2)) → EsI l kvs
  | [], [], _ => .nil
  | [], _ :: _, h => by cases h
  | _ :: _, [], h => by cases h
  | ⟨hs, k, v⟩ :: r, (x, i) :: kvs, h => by
    have h1 : entJ ⟨hs, k, v⟩ :: r.map entJ = some (x, hashInt x, i) :: kvs.map (fun q => some (q.1, hashInt q.1, q.2)) := h
    injection h1 with h2 h3
    have ih := esI_of h3
    unfold entJ at h2
    split at h2
    · rename_i a b c d q1 q2
      simp only at q1 q2 h2
      subst q1 q2
      simp only [Option.some.injEq, Prod.mk.injEq] at h2
      obtain ⟨e1, e2, e3⟩ := h2
      subst e1 e3
      rw [show hs = _ from e2]
      exact .cons ih
    · cases h2
theorem tabJ_ok {K : PySem.W.Frag} {w : World} {a : Addr} {kvs : List (Int × Str)} (h : tabJ K a kvs = true) : KDj K w a kvs := by
  have h := of_decide_eq_true h
  rw [Option.map_eq_some_iff] at h
  obtain ⟨l, h1, h2⟩ := h
  obtain ⟨es, n, q, e, s⟩ := tabOf_ok h1
  exact ⟨es, n, q, by rw [e]; exact esI_of h2, s⟩
/-! the Hook -/
abbrev Tb : Type := Str × List (Str × Int)
abbrev AlH : Type := He.AlD × Bool × List (Option (List (Option (Str × Int × Int))))
def obsH (fa : List He.Fa) (fn : List He.DefD) (ex : List (PySem.W.Frag → Bool)) (ts : List Tb) (K : PySem.W.Frag) : AlH := (He.obsD fa fn K, ex.all fun e => e K, ts.map fun t => tabI K (He.ga K t.1))
def valH (fn : List He.DefD) (ts : List Tb) (w : World) : AlH := (He.valD fn, true, ts.map fun t => some (valI w.params t.2))
def obsHG (n : Nat) (fa : List He.Fa) (fn : List He.DefD) (ex : List (PySem.W.Frag → Bool)) (ts : List Tb) (g : Addr → Option Obj) : AlH := obsH fa fn ex ts (He.frG g (adrB g n))
def SaysH (fa : List He.Fa) (fn : List He.DefD) (ex : List (PySem.W.Frag → Bool)) (ts : List Tb) (w : World) (K : PySem.W.Frag) : Prop := obsH fa fn ex ts K = valH fn ts w
def hookH (n : Nat) (fa : List He.Fa) (fn : List He.DefD) (ex : List (PySem.W.Frag → Bool)) (ts : List Tb) : PySem.W.Hook where
  α := AlH
  obs := fun s => obsHG n fa fn ex ts s.heap.get?
  val := fun w => valH fn ts w
  says := fun w h => ∃ K : PySem.W.Frag, K.In h ∧ SaysH fa fn ex ts w K
  of := fun _ _ e => ⟨_, He.frG_in, e⟩
  keeps := fun _ _ _ ⟨K, hK, c⟩ k => ⟨K, PySem.W.Frag.In.keeps hK k, c⟩
theorem obsHG_eq {n : Nat} {fa : List He.Fa} {fn : List He.DefD} {ex : List (PySem.W.Frag → Bool)} {ts : List Tb} {g : Addr → Option Obj} {s : Shared} (h : ∀ a, g a = s.heap.get? a) : obsHG n fa fn ex ts g = (hookH n fa fn ex ts).obs s := by
  have e : g = s.heap.get? := funext h
  rw [e] <;> rfl
/-- the two halves of what is looked at -/
def obsA (n : Nat) (fa : List He.Fa) (fn : List He.DefD) (g : Addr → Option Obj) : He.AlD := He.obsD fa fn (He.frG g (adrB g n))
def obsX (n : Nat) (ex : List (PySem.W.Frag → Bool)) (ts : List Tb) (g : Addr → Option Obj) : Bool × List (Option (List (Option (Str × Int × Int)))) := (ex.all fun e => e (He.frG g (adrB g n)), ts.map fun t => tabI (He.frG g (adrB g n)) (He.ga (He.frG g (adrB g n)) t.1))
/-- the run, to its end -/
noncomputable abbrev endW (M : Nat) (r : PySem.W.OpenRow) (w : World) := HandSHeadRun.wholeF (fun p => HandSHeadRun.stepQ (HandSHeadRun.denQ HandSHeadRun.tabQ) p w) HandSHeadRun.fenceQ M r.prog
/-- the run's equation out of two runs -/
theorem run_two {r : PySem.W.OpenRow} {q : Program} {n M : Nat} {fa : List He.Fa} {fn : List He.DefD} {ex : List (PySem.W.Frag → Bool)} {ts : List Tb} {loose : List PySem.Str} {w : World}
    (h1 : (endW M r w).map (fun x => (HandSHeadRun.looksF r.prog x.1.heap x.2.abs, HandSHeadRun.seenQ q loose (importedModules r.prog.main.body) (fun s => PySem.W.xlAt q [] s && PySem.W.recOk r.toRowW.records s) x.2.abs, obsX n ex ts (HandSHeadRun.getT x.2))) = some (true, PySem.W.openGood q loose, (true, ts.map fun t => some (valI w.params t.2))))
    (h2 : (endW M r w).map (fun x => obsA n fa fn (HandSHeadRun.getT x.2)) = some (He.valD fn)) :
    HandSHeadRun.RunEqI r q (hookH n fa fn ex ts) (fun s => obsHG n fa fn ex ts (HandSHeadRun.getT s)) M loose w := by
  unfold HandSHeadRun.RunEqI
  obtain ⟨x, e1, e2⟩ := Option.map_eq_some_iff.mp h2
  change endW M r w = some x at e1
  rw [e1] at h1
  have h1' := Option.some.inj h1
  obtain ⟨a1, a2⟩ := Prod.mk.inj h1'
  obtain ⟨a2, a3⟩ := Prod.mk.inj a2
  obtain ⟨a3, a4⟩ := Prod.mk.inj a3
  have e : HandSHeadRun.wholeF (fun p => HandSHeadRun.stepQ (HandSHeadRun.denQ HandSHeadRun.tabQ) p w) HandSHeadRun.fenceQ M r.prog = some x := e1
  rw [e]
  refine congrArg some (Prod.ext a1 (Prod.ext a2 ?_))
  exact Prod.ext e2 (Prod.ext a3 a4)
section
variable {fa : List He.Fa} {fn : List He.DefD} {ex : List (PySem.W.Frag → Bool)} {ts : List Tb} {w : World} {K : PySem.W.Frag}
theorem SaysH.d (c : SaysH fa fn ex ts w K) : He.SaysD fa fn K := congrArg (fun z : AlH => z.1) c
theorem SaysH.x (c : SaysH fa fn ex ts w K) (i : Nat) {e : PySem.W.Frag → Bool} (h : ex[i]? = some e := by rfl) : e K = true :=
  List.all_eq_true.mp (show (ex.all fun e => e K) = true from congrArg (fun z : AlH => z.2.1) c) e (List.mem_of_getElem? h)
theorem SaysH.tab (c : SaysH fa fn ex ts w K) (i : Nat) {t : Tb} (h : ts[i]? = some t := by rfl) : KDi K w (He.ga K t.1) t.2 := by
  have e : ts.map (fun t => tabI K (He.ga K t.1)) = ts.map fun t => some (valI w.params t.2) := congrArg (fun z : AlH => z.2.2) c
  have e2 : (ts.map fun t => tabI K (He.ga K t.1))[i]? = (ts.map fun t => some (valI w.params t.2))[i]? := by rw [e]
  rw [List.getElem?_map, List.getElem?_map, h] at e2
  exact tabI_ok (Option.some.inj e2)
theorem fun_ofD {x qual : Str} {st : Stmt} {f : Addr} {fd : FuncData} (F : He.DefD → Prop := fun _ => True) (G : FunD K x qual (defArgs st) (defBody st) (defScope st) [] [] f fd) : Fun K x qual st f fd := by
  obtain ⟨⟨oc, od, dV, kV, doc, pm, an, cdv, ct, osl, e, lk, hcd, hD, _⟩, kp⟩ := G
  have hd : dV = .none := by
    rcases hD with h | h
    · first | exact h | exact h.2
    · exact absurd rfl h.1
  subst hd
  exact ⟨⟨oc, od, kV, doc, pm, an, cdv, ct, osl, e, lk, hcd⟩, kp⟩
theorem def_mkH {mg : Str → Option Value} {x : Str} {st : Stmt} {ps : List Str} (FD : ∃ fd, FunD K x x (defArgs st) (defBody st) (defScope st) [] [] (He.ga K x) fd) (m : mg x = some (.ref (He.ga K x)))
    (h : ∀ (kV doc pm : Value) (an : Option Addr) (cdv ct : Value) (us : List Value), us.length = ps.length → bindArgs (PySem.W.fnOf x x (defArgs st) (defBody st) (defScope st) .none kV doc pm an cdv ct) ⟨us, []⟩ = pure (ps.zip us)) : Nonempty (DefE K mg x st ps) := by
  obtain ⟨fd, G⟩ := FD
  have F := fun_ofD (F := fun _ => True) G
  exact ⟨⟨_, fd, F, F.binds h, m, G.kp⟩⟩
theorem met_mkH {C : Addr} {x qual : Str} {st : Stmt} {ps : List Str} (FD : ∃ fd, FunD K x qual (defArgs st) (defBody st) (defScope st) [] [] (He.ma K C x) fd) (m : Meth K C x (He.ma K C x))
    (h : ∀ (kV doc pm : Value) (an : Option Addr) (cdv ct : Value) (us : List Value), us.length = ps.length → bindArgs (PySem.W.fnOf x qual (defArgs st) (defBody st) (defScope st) .none kV doc pm an cdv ct) ⟨us, []⟩ = pure (ps.zip us)) : Nonempty (MetE K C x qual st ps) := by
  obtain ⟨fd, G⟩ := FD
  have F := fun_ofD (F := fun _ => True) G
  exact ⟨⟨_, fd, F, F.binds h, m⟩⟩
end
/-- what is checked of the class Number besides -/
def numX (x : Str) : List (PySem.W.Frag → Bool) := [
  fun K => He.eqO (PySem.W.findIn K (.ref (He.ga K x)) "__class__") (some (some (.builtin "object.__class__"))),
  fun K => He.eqO (PySem.W.specialIn K (.builtin "object.__class__") "__get__") (some (some (.builtin "getset_descriptor.__get__"))),
  fun K => decide (PySem.W.takesIn K (.builtin "object.__class__") = some true),
  fun K => decide (PySem.W.mroIn K (He.ga K x) (.type "object") = some true),
  fun K => decide (PySem.W.kitOne K (.ref (He.ga K x)) (.ref (He.ga K x)) = some true),
  fun K => ["NoneType", "bool", "int", "str", "tuple", "list"].all fun T => decide (PySem.W.kitOne K (.type T) (.ref (He.ga K x)) = some false),
  fun K => PySem.W.selfFirst K (He.ga K x)]
theorem isT_of {K : PySem.W.Frag} {x : Str} (cl : Cls K (He.ga K x)) (h : ∀ (i : Nat) (e : PySem.W.Frag → Bool), (numX x)[i]? = some e → e K = true) : IsT K (He.ga K x) ∧ PySem.W.selfFirst K (He.ga K x) = true :=
  ⟨⟨cl, He.eqO_ok (h 0 _ rfl), He.eqO_ok (h 1 _ rfl), of_decide_eq_true (h 2 _ rfl), of_decide_eq_true (h 3 _ rfl), of_decide_eq_true (h 4 _ rfl), fun T hT => of_decide_eq_true (List.all_eq_true.mp (h 5 _ rfl) T hT)⟩, h 6 _ rfl⟩
end DN

namespace K31
open PySem PySem.Spec PyProof.Rows L2 KG DN
abbrev partsD : List (Str × Int) := [("add", 2), ("sub", 2), ("mul", 2), ("div", 2), ("neg", 1), ("root", 1)]
abbrev cornersD : List (Int × Str) := [(3, "div -1 2"), (4, "0"), (5, "div sub root 5 1 4"), (15, "div add add 1 root 5 root sub 30 mul 6 root 5 8")]
end K31

set_option maxHeartbeats 0
namespace K31
open PySem PySem.Spec PyProof.Rows L2 KG DN
def ddlaw : He.DefD := ⟨("law", none), "law", "law", defArgs (topS 109), defBody (topS 109), defScope (topS 109), [], []⟩
def ddinteger_of : He.DefD := ⟨("integer_of", none), "integer_of", "integer_of", defArgs (topS 83), defBody (topS 83), defScope (topS 83), [], []⟩
def dd_law_state : He.DefD := ⟨("_law_state", none), "_law_state", "_law_state", defArgs (topS 99), defBody (topS 99), defScope (topS 99), [], []⟩
def dd_law_take : He.DefD := ⟨("_law_take", none), "_law_take", "_law_take", defArgs (topS 100), defBody (topS 100), defScope (topS 100), [], []⟩
def ddplus : He.DefD := ⟨("plus", none), "plus", "plus", defArgs (topS 8), defBody (topS 8), defScope (topS 8), [], []⟩
def ddminus : He.DefD := ⟨("minus", none), "minus", "minus", defArgs (topS 9), defBody (topS 9), defScope (topS 9), [], []⟩
def ddtimes : He.DefD := ⟨("times", none), "times", "times", defArgs (topS 10), defBody (topS 10), defScope (topS 10), [], []⟩
def ddpadded : He.DefD := ⟨("padded", none), "padded", "padded", defArgs (topS 11), defBody (topS 11), defScope (topS 11), [], []⟩
def ddlast_generator : He.DefD := ⟨("last_generator", none), "last_generator", "last_generator", defArgs (topS 12), defBody (topS 12), defScope (topS 12), [], []⟩
def ddmultiplied : He.DefD := ⟨("multiplied", none), "multiplied", "multiplied", defArgs (topS 13), defBody (topS 13), defScope (topS 13), [], []⟩
def ddby_generator : He.DefD := ⟨("by_generator", none), "by_generator", "by_generator", defArgs (topS 14), defBody (topS 14), defScope (topS 14), [], []⟩
def ddnorm : He.DefD := ⟨("norm", none), "norm", "norm", defArgs (topS 15), defBody (topS 15), defScope (topS 15), [], []⟩
def ddlowest : He.DefD := ⟨("lowest", none), "lowest", "lowest", defArgs (topS 16), defBody (topS 16), defScope (topS 16), [], []⟩
def ddinverse : He.DefD := ⟨("inverse", none), "inverse", "inverse", defArgs (topS 17), defBody (topS 17), defScope (topS 17), [], []⟩
def ddelement_sum : He.DefD := ⟨("element_sum", none), "element_sum", "element_sum", defArgs (topS 18), defBody (topS 18), defScope (topS 18), [], []⟩
def ddelement_difference : He.DefD := ⟨("element_difference", none), "element_difference", "element_difference", defArgs (topS 19), defBody (topS 19), defScope (topS 19), [], []⟩
def ddelement_product : He.DefD := ⟨("element_product", none), "element_product", "element_product", defArgs (topS 20), defBody (topS 20), defScope (topS 20), [], []⟩
def ddelement_quotient : He.DefD := ⟨("element_quotient", none), "element_quotient", "element_quotient", defArgs (topS 21), defBody (topS 21), defScope (topS 21), [], []⟩
def ddfrom_halves : He.DefD := ⟨("from_halves", none), "from_halves", "from_halves", defArgs (topS 22), defBody (topS 22), defScope (topS 22), [], []⟩
def dd_shares : He.DefD := ⟨("_shares", none), "_shares", "_shares", defArgs (topS 24), defBody (topS 24), defScope (topS 24), [], []⟩
def dd_chosen : He.DefD := ⟨("_chosen", none), "_chosen", "_chosen", defArgs (topS 25), defBody (topS 25), defScope (topS 25), [], []⟩
def ddtrimmed : He.DefD := ⟨("trimmed", none), "trimmed", "trimmed", defArgs (topS 23), defBody (topS 23), defScope (topS 23), [], []⟩
def ddbound : He.DefD := ⟨("bound", none), "bound", "bound", defArgs (topS 28), defBody (topS 28), defScope (topS 28), [], []⟩
def dd_unit : He.DefD := ⟨("_unit", none), "_unit", "_unit", defArgs (topS 29), defBody (topS 29), defScope (topS 29), [], []⟩
def dd_root : He.DefD := ⟨("_root", none), "_root", "_root", defArgs (topS 30), defBody (topS 30), defScope (topS 30), [], []⟩
def dd_scaled : He.DefD := ⟨("_scaled", none), "_scaled", "_scaled", defArgs (topS 31), defBody (topS 31), defScope (topS 31), [], []⟩
def ddbasis_of : He.DefD := ⟨("basis_of", none), "basis_of", "basis_of", defArgs (topS 32), defBody (topS 32), defScope (topS 32), [], []⟩
def ddsign_of : He.DefD := ⟨("sign_of", none), "sign_of", "sign_of", defArgs (topS 33), defBody (topS 33), defScope (topS 33), [], []⟩
def ddpositive : He.DefD := ⟨("positive", none), "positive", "positive", defArgs (topS 34), defBody (topS 34), defScope (topS 34), [], []⟩
def ddapart : He.DefD := ⟨("apart", none), "apart", "apart", defArgs (topS 35), defBody (topS 35), defScope (topS 35), [], []⟩
def dd_bases : He.DefD := ⟨("_bases", none), "_bases", "_bases", defArgs (topS 36), defBody (topS 36), defScope (topS 36), [], []⟩
def dd_count_below_first : He.DefD := ⟨("_count_below_first", none), "_count_below_first", "_count_below_first", defArgs (topS 37), defBody (topS 37), defScope (topS 37), [], []⟩
def ddplace_of : He.DefD := ⟨("place_of", none), "place_of", "place_of", defArgs (topS 38), defBody (topS 38), defScope (topS 38), [], []⟩
def dd_integer_root : He.DefD := ⟨("_integer_root", none), "_integer_root", "_integer_root", defArgs (topS 42), defBody (topS 42), defScope (topS 42), [], []⟩
def ddsquare_root : He.DefD := ⟨("square_root", none), "square_root", "square_root", defArgs (topS 41), defBody (topS 41), defScope (topS 41), [], []⟩
def dd_root_without_last : He.DefD := ⟨("_root_without_last", none), "_root_without_last", "_root_without_last", defArgs (topS 43), defBody (topS 43), defScope (topS 43), [], []⟩
def dd_means : He.DefD := ⟨("_means", none), "_means", "_means", defArgs (topS 44), defBody (topS 44), defScope (topS 44), [], []⟩
def dd_square_part : He.DefD := ⟨("_square_part", none), "_square_part", "_square_part", defArgs (topS 46), defBody (topS 46), defScope (topS 46), [], []⟩
def ddadjoined : He.DefD := ⟨("adjoined", none), "adjoined", "adjoined", defArgs (topS 45), defBody (topS 45), defScope (topS 45), [], []⟩
def dd_partner : He.DefD := ⟨("_partner", none), "_partner", "_partner", defArgs (topS 48), defBody (topS 48), defScope (topS 48), [], []⟩
def ddnew_squares : He.DefD := ⟨("new_squares", none), "new_squares", "new_squares", defArgs (topS 47), defBody (topS 47), defScope (topS 47), [], []⟩
def ddwidened : He.DefD := ⟨("widened", none), "widened", "widened", defArgs (topS 50), defBody (topS 50), defScope (topS 50), [], []⟩
def ddimage : He.DefD := ⟨("image", none), "image", "image", defArgs (topS 51), defBody (topS 51), defScope (topS 51), [], []⟩
def ddimage_of_element : He.DefD := ⟨("image_of_element", none), "image_of_element", "image_of_element", defArgs (topS 52), defBody (topS 52), defScope (topS 52), [], []⟩
def ddroot_in : He.DefD := ⟨("root_in", none), "root_in", "root_in", defArgs (topS 55), defBody (topS 55), defScope (topS 55), [], []⟩
def dd_known_root : He.DefD := ⟨("_known_root", none), "_known_root", "_known_root", defArgs (topS 54), defBody (topS 54), defScope (topS 54), [], []⟩
def ddjoined : He.DefD := ⟨("joined", none), "joined", "joined", defArgs (topS 53), defBody (topS 53), defScope (topS 53), [], []⟩
def ddprimitive : He.DefD := ⟨("primitive", none), "primitive", "primitive", defArgs (topS 57), defBody (topS 57), defScope (topS 57), [], []⟩
def dd_polynomial_square : He.DefD := ⟨("_polynomial_square", none), "_polynomial_square", "_polynomial_square", defArgs (topS 61), defBody (topS 61), defScope (topS 61), [], []⟩
def ddcharacteristic : He.DefD := ⟨("characteristic", none), "characteristic", "characteristic", defArgs (topS 60), defBody (topS 60), defScope (topS 60), [], []⟩
def dd_polynomial_root : He.DefD := ⟨("_polynomial_root", none), "_polynomial_root", "_polynomial_root", defArgs (topS 62), defBody (topS 62), defScope (topS 62), [], []⟩
def dd_least_terms : He.DefD := ⟨("_least_terms", none), "_least_terms", "_least_terms", defArgs (topS 63), defBody (topS 63), defScope (topS 63), [], []⟩
def dd_degree : He.DefD := ⟨("_degree", none), "_degree", "_degree", defArgs (topS 64), defBody (topS 64), defScope (topS 64), [], []⟩
def ddleast_polynomial : He.DefD := ⟨("least_polynomial", none), "least_polynomial", "least_polynomial", defArgs (topS 65), defBody (topS 65), defScope (topS 65), [], []⟩
def dd_with_root_below : He.DefD := ⟨("_with_root_below", none), "_with_root_below", "_with_root_below", defArgs (topS 67), defBody (topS 67), defScope (topS 67), [], []⟩
def ddleast_field : He.DefD := ⟨("least_field", none), "least_field", "least_field", defArgs (topS 66), defBody (topS 66), defScope (topS 66), [], []⟩
def dd_rank : He.DefD := ⟨("_rank", none), "_rank", "_rank", defArgs (topS 70), defBody (topS 70), defScope (topS 70), [], []⟩
def dd_in_one_tower : He.DefD := ⟨("_in_one_tower", none), "_in_one_tower", "_in_one_tower", defArgs (topS 69), defBody (topS 69), defScope (topS 69), [], []⟩
def ddtogether : He.DefD := ⟨("together", none), "together", "together", defArgs (topS 68), defBody (topS 68), defScope (topS 68), [], []⟩
def ddwhole_element : He.DefD := ⟨("whole_element", none), "whole_element", "whole_element", defArgs (topS 78), defBody (topS 78), defScope (topS 78), [], []⟩
def dd_alike : He.DefD := ⟨("_alike", none), "_alike", "_alike", defArgs (topS 79), defBody (topS 79), defScope (topS 79), [], []⟩
def dd_shortest : He.DefD := ⟨("_shortest", none), "_shortest", "_shortest", defArgs (topS 80), defBody (topS 80), defScope (topS 80), [], []⟩
def ddnumber_in : He.DefD := ⟨("number_in", none), "number_in", "number_in", defArgs (topS 73), defBody (topS 73), defScope (topS 73), [], []⟩
def dd_both : He.DefD := ⟨("_both", none), "_both", "_both", defArgs (topS 74), defBody (topS 74), defScope (topS 74), [], []⟩
def dd_order : He.DefD := ⟨("_order", none), "_order", "_order", defArgs (topS 75), defBody (topS 75), defScope (topS 75), [], []⟩
def dd_fault : He.DefD := ⟨("_fault", none), "_fault", "_fault", defArgs (topS 87), defBody (topS 87), defScope (topS 87), [], []⟩
def ddread_formula : He.DefD := ⟨("read_formula", none), "read_formula", "read_formula", defArgs (topS 86), defBody (topS 86), defScope (topS 86), [], []⟩
def ddwrite_formula : He.DefD := ⟨("write_formula", none), "write_formula", "write_formula", defArgs (topS 88), defBody (topS 88), defScope (topS 88), [], []⟩
def dd_inside_first : He.DefD := ⟨("_inside_first", none), "_inside_first", "_inside_first", defArgs (topS 91), defBody (topS 91), defScope (topS 91), [], []⟩
def dd_combined : He.DefD := ⟨("_combined", none), "_combined", "_combined", defArgs (topS 92), defBody (topS 92), defScope (topS 92), [], []⟩
def ddworked_out : He.DefD := ⟨("worked_out", none), "worked_out", "worked_out", defArgs (topS 90), defBody (topS 90), defScope (topS 90), [], []⟩
def ddvalue : He.DefD := ⟨("value", none), "value", "value", defArgs (topS 89), defBody (topS 89), defScope (topS 89), [], []⟩
def dd_corner_of_17 : He.DefD := ⟨("_corner_of_17", none), "_corner_of_17", "_corner_of_17", defArgs (topS 96), defBody (topS 96), defScope (topS 96), [], []⟩
def dd_of_half_the_angle : He.DefD := ⟨("_of_half_the_angle", none), "_of_half_the_angle", "_of_half_the_angle", defArgs (topS 97), defBody (topS 97), defScope (topS 97), [], []⟩
def ddcorner : He.DefD := ⟨("corner", none), "corner", "corner", defArgs (topS 95), defBody (topS 95), defScope (topS 95), [], []⟩
def dd_law_gcd : He.DefD := ⟨("_law_gcd", none), "_law_gcd", "_law_gcd", defArgs (topS 101), defBody (topS 101), defScope (topS 101), [], []⟩
def dd_law_primitive : He.DefD := ⟨("_law_primitive", none), "_law_primitive", "_law_primitive", defArgs (topS 102), defBody (topS 102), defScope (topS 102), [], []⟩
def dd_law_words : He.DefD := ⟨("_law_words", none), "_law_words", "_law_words", defArgs (topS 103), defBody (topS 103), defScope (topS 103), [], []⟩
def dd_law_depth : He.DefD := ⟨("_law_depth", none), "_law_depth", "_law_depth", defArgs (topS 104), defBody (topS 104), defScope (topS 104), [], []⟩
def dd_law_is_small : He.DefD := ⟨("_law_is_small", none), "_law_is_small", "_law_is_small", defArgs (topS 105), defBody (topS 105), defScope (topS 105), [], []⟩
def dd_law_is_drawable : He.DefD := ⟨("_law_is_drawable", none), "_law_is_drawable", "_law_is_drawable", defArgs (topS 106), defBody (topS 106), defScope (topS 106), [], []⟩
def dd_law_is_corner : He.DefD := ⟨("_law_is_corner", none), "_law_is_corner", "_law_is_corner", defArgs (topS 107), defBody (topS 107), defScope (topS 107), [], []⟩
def dd_law_is_told : He.DefD := ⟨("_law_is_told", none), "_law_is_told", "_law_is_told", defArgs (topS 108), defBody (topS 108), defScope (topS 108), [], []⟩
def ddNumber___add__ : He.DefD := ⟨("Number", some "__add__"), "__add__", "Number.__add__", defArgs (inCls (topS 72) 1), defBody (inCls (topS 72) 1), defScope (inCls (topS 72) 1), [], []⟩
def ddNumber___sub__ : He.DefD := ⟨("Number", some "__sub__"), "__sub__", "Number.__sub__", defArgs (inCls (topS 72) 2), defBody (inCls (topS 72) 2), defScope (inCls (topS 72) 2), [], []⟩
def ddNumber___mul__ : He.DefD := ⟨("Number", some "__mul__"), "__mul__", "Number.__mul__", defArgs (inCls (topS 72) 3), defBody (inCls (topS 72) 3), defScope (inCls (topS 72) 3), [], []⟩
def ddNumber___eq__ : He.DefD := ⟨("Number", some "__eq__"), "__eq__", "Number.__eq__", defArgs (inCls (topS 72) 5), defBody (inCls (topS 72) 5), defScope (inCls (topS 72) 5), [], []⟩
def ddNumber_below : He.DefD := ⟨("Number", some "below"), "below", "Number.below", defArgs (inCls (topS 72) 6), defBody (inCls (topS 72) 6), defScope (inCls (topS 72) 6), [], []⟩
def ddNumber_polynomial : He.DefD := ⟨("Number", some "polynomial"), "polynomial", "Number.polynomial", defArgs (inCls (topS 72) 11), defBody (inCls (topS 72) 11), defScope (inCls (topS 72) 11), [], []⟩
def ddNumber_degree : He.DefD := ⟨("Number", some "degree"), "degree", "Number.degree", defArgs (inCls (topS 72) 12), defBody (inCls (topS 72) 12), defScope (inCls (topS 72) 12), [], []⟩
def ddNumber_place : He.DefD := ⟨("Number", some "place"), "place", "Number.place", defArgs (inCls (topS 72) 13), defBody (inCls (topS 72) 13), defScope (inCls (topS 72) 13), [], []⟩
def ddField_number : He.DefD := ⟨("Field", some "number"), "number", "Field.number", defArgs (inCls (topS 77) 2), defBody (inCls (topS 77) 2), defScope (inCls (topS 77) 2), [], []⟩
def ddField_plus : He.DefD := ⟨("Field", some "plus"), "plus", "Field.plus", defArgs (inCls (topS 77) 3), defBody (inCls (topS 77) 3), defScope (inCls (topS 77) 3), [], []⟩
def ddField_minus : He.DefD := ⟨("Field", some "minus"), "minus", "Field.minus", defArgs (inCls (topS 77) 4), defBody (inCls (topS 77) 4), defScope (inCls (topS 77) 4), [], []⟩
def ddField_product : He.DefD := ⟨("Field", some "product"), "product", "Field.product", defArgs (inCls (topS 77) 5), defBody (inCls (topS 77) 5), defScope (inCls (topS 77) 5), [], []⟩
def ddField_inverted : He.DefD := ⟨("Field", some "inverted"), "inverted", "Field.inverted", defArgs (inCls (topS 77) 7), defBody (inCls (topS 77) 7), defScope (inCls (topS 77) 7), [], []⟩
def ddField_quotient : He.DefD := ⟨("Field", some "quotient"), "quotient", "Field.quotient", defArgs (inCls (topS 77) 6), defBody (inCls (topS 77) 6), defScope (inCls (topS 77) 6), [], []⟩
def ddField_negative : He.DefD := ⟨("Field", some "negative"), "negative", "Field.negative", defArgs (inCls (topS 77) 8), defBody (inCls (topS 77) 8), defScope (inCls (topS 77) 8), [], []⟩
def ddField_sign : He.DefD := ⟨("Field", some "sign"), "sign", "Field.sign", defArgs (inCls (topS 77) 9), defBody (inCls (topS 77) 9), defScope (inCls (topS 77) 9), [], []⟩
def ddField__found_root : He.DefD := ⟨("Field", some "_found_root"), "_found_root", "Field._found_root", defArgs (inCls (topS 77) 11), defBody (inCls (topS 77) 11), defScope (inCls (topS 77) 11), [], []⟩
def ddField_root : He.DefD := ⟨("Field", some "root"), "root", "Field.root", defArgs (inCls (topS 77) 10), defBody (inCls (topS 77) 10), defScope (inCls (topS 77) 10), [], []⟩
def ddNumber___init__ : He.DefD := ⟨("Number", some "__init__"), "__init__", "Number.__init__", defArgs (inCls (topS 72) 0), defBody (inCls (topS 72) 0), defScope (inCls (topS 72) 0), [.int 1], []⟩
def ddField___init__ : He.DefD := ⟨("Field", some "__init__"), "__init__", "Field.__init__", defArgs (inCls (topS 77) 0), defBody (inCls (topS 77) 0), defScope (inCls (topS 77) 0), [], []⟩
def faH0 : List He.Fa := [.glo "law", .glo "integer_of", .glo "_law_state", .glo "_law_take", .glo "plus", .glo "minus", .glo "times", .glo "padded", .glo "last_generator", .glo "multiplied", .glo "by_generator", .glo "norm", .glo "lowest", .glo "inverse", .glo "element_sum", .glo "element_difference", .glo "element_product", .glo "element_quotient", .glo "from_halves", .glo "_shares", .glo "_chosen", .glo "trimmed", .glo "bound", .glo "_unit", .glo "_root"]
def faH1 : List He.Fa := [.glo "_scaled", .glo "basis_of", .glo "sign_of", .glo "positive", .glo "apart", .glo "_bases", .glo "_count_below_first", .glo "place_of", .glo "_integer_root", .glo "square_root", .glo "_root_without_last", .glo "_means", .glo "_square_part", .glo "adjoined", .glo "_partner", .glo "new_squares", .glo "widened", .glo "image", .glo "image_of_element", .glo "root_in", .glo "_known_root", .glo "joined", .glo "primitive", .glo "_polynomial_square", .glo "characteristic"]
def faH2 : List He.Fa := [.glo "_polynomial_root", .glo "_least_terms", .glo "_degree", .glo "least_polynomial", .glo "_with_root_below", .glo "least_field", .glo "_rank", .glo "_in_one_tower", .glo "together", .glo "whole_element", .glo "_alike", .glo "_shortest", .glo "number_in", .glo "_both", .glo "_order", .glo "_fault", .glo "read_formula", .glo "write_formula", .glo "_inside_first", .glo "_combined", .glo "worked_out", .glo "value", .glo "_corner_of_17", .glo "_of_half_the_angle", .glo "corner"]
def faH3 : List He.Fa := [.glo "_law_gcd", .glo "_law_primitive", .glo "_law_words", .glo "_law_depth", .glo "_law_is_small", .glo "_law_is_drawable", .glo "_law_is_corner", .glo "_law_is_told", .glo "Number", .cls "Number", .mkr "Number", .noat "Number" "tower", .noat "Number" "element", .glo "Field", .cls "Field", .mkr "Field", .noat "Field" "tower", .noat "Field" "known_roots", .meth "Number" "__add__", .meth "Number" "__sub__", .meth "Number" "__mul__", .meth "Number" "__eq__", .meth "Number" "below", .meth "Number" "polynomial", .meth "Number" "degree"]
def faH4 : List He.Fa := [.meth "Number" "place", .meth "Field" "number", .meth "Field" "plus", .meth "Field" "minus", .meth "Field" "product", .meth "Field" "inverted", .meth "Field" "quotient", .meth "Field" "negative", .meth "Field" "sign", .meth "Field" "_found_root", .meth "Field" "root", .free "ValueError", .free "tuple", .free "any", .free "reversed", .free "enumerate", .free "zip", .free "range", .free "len", .free "max", .free "int", .free "abs", .free "NotImplemented", .free "min", .free "isinstance"]
def faH5 : List He.Fa := [.free "str", .int "FIRST_BITS" (64), .int "MOST_TRIED" (100), .int "MOST_GENERATORS" (4), .int "MOST_DIGITS" (30), .glo "PARTS", .glo "CORNERS"]
def faH : List He.Fa := faH0 ++ faH1 ++ faH2 ++ faH3 ++ faH4 ++ faH5
def fnH0 : List He.DefD := [ddlaw, ddinteger_of, dd_law_state, dd_law_take, ddplus, ddminus, ddtimes, ddpadded, ddlast_generator, ddmultiplied, ddby_generator, ddnorm, ddlowest, ddinverse, ddelement_sum, ddelement_difference, ddelement_product, ddelement_quotient, ddfrom_halves, dd_shares, dd_chosen, ddtrimmed, ddbound, dd_unit, dd_root]
def fnH1 : List He.DefD := [dd_scaled, ddbasis_of, ddsign_of, ddpositive, ddapart, dd_bases, dd_count_below_first, ddplace_of, dd_integer_root, ddsquare_root, dd_root_without_last, dd_means, dd_square_part, ddadjoined, dd_partner, ddnew_squares, ddwidened, ddimage, ddimage_of_element, ddroot_in, dd_known_root, ddjoined, ddprimitive, dd_polynomial_square, ddcharacteristic]
def fnH2 : List He.DefD := [dd_polynomial_root, dd_least_terms, dd_degree, ddleast_polynomial, dd_with_root_below, ddleast_field, dd_rank, dd_in_one_tower, ddtogether, ddwhole_element, dd_alike, dd_shortest, ddnumber_in, dd_both, dd_order, dd_fault, ddread_formula, ddwrite_formula, dd_inside_first, dd_combined, ddworked_out, ddvalue, dd_corner_of_17, dd_of_half_the_angle, ddcorner]
def fnH3 : List He.DefD := [dd_law_gcd, dd_law_primitive, dd_law_words, dd_law_depth, dd_law_is_small, dd_law_is_drawable, dd_law_is_corner, dd_law_is_told, ddNumber___add__, ddNumber___sub__, ddNumber___mul__, ddNumber___eq__, ddNumber_below, ddNumber_polynomial, ddNumber_degree, ddNumber_place, ddField_number, ddField_plus, ddField_minus, ddField_product, ddField_inverted, ddField_quotient, ddField_negative, ddField_sign, ddField__found_root]
def fnH4 : List He.DefD := [ddField_root, ddNumber___init__, ddField___init__]
def fnH : List He.DefD := fnH0 ++ fnH1 ++ fnH2 ++ fnH3 ++ fnH4
def exH : List (PySem.W.Frag → Bool) := numX "Number" ++ [(fun K => He.eqO (PySem.W.nsIn K mainGlobals "gcd") (some (some (.builtin "math.gcd")))),
  (fun K => He.eqO (PySem.W.nsIn K mainGlobals "isqrt") (some (some (.builtin "math.isqrt")))),
  (fun K => tabJ K (He.ga K "CORNERS") cornersD)]
def tsH : List Tb := [("PARTS", partsD)]
def nmH0 : List Str := ["_wall", "WorkError", "ZeroDivisor", "NegativeRoot", "BadText", "plus", "minus", "times", "padded", "last_generator", "multiplied", "by_generator", "norm", "lowest", "inverse", "element_sum", "element_difference", "element_product", "element_quotient", "from_halves", "trimmed", "_shares", "_chosen", "FIRST_BITS", "bound"]
def nmH1 : List Str := ["_unit", "_root", "_scaled", "basis_of", "sign_of", "positive", "apart", "_bases", "_count_below_first", "place_of", "MOST_TRIED", "square_root", "_integer_root", "_root_without_last", "_means", "adjoined", "_square_part", "new_squares", "_partner", "widened", "image", "image_of_element", "joined", "_known_root", "root_in"]
def nmH2 : List Str := ["primitive", "MOST_GENERATORS", "characteristic", "_polynomial_square", "_polynomial_root", "_least_terms", "_degree", "least_polynomial", "least_field", "_with_root_below", "together", "_in_one_tower", "_rank", "Number", "number_in", "_both", "_order", "Field", "whole_element", "_alike", "_shortest", "MOST_DIGITS", "integer_of", "PARTS", "read_formula"]
def nmH3 : List Str := ["_fault", "write_formula", "value", "worked_out", "_inside_first", "_combined", "CORNERS", "corner", "_corner_of_17", "_of_half_the_angle", "_law_state", "_law_take", "_law_gcd", "_law_primitive", "_law_words", "_law_depth", "_law_is_small", "_law_is_drawable", "_law_is_corner", "_law_is_told"]
def nmH : List Str := nmH0 ++ nmH1 ++ nmH2 ++ nmH3
abbrev RH : PySem.W.OpenRow := PySem.W.OpenLaw.row PySem.Challenge.rw_compasswork_k31_corners_of_polygons
abbrev hkH : PySem.W.Hook := hookH 6 faH fnH exH tsH
def obH (s : PySem.W.SharedT) : AlH := obsHG 6 faH fnH exH tsH (HandSHeadRun.getT s)
theorem obH_eq (s : PySem.W.SharedT) : obH s = hkH.obs s.abs := obsHG_eq (HandSHeadRun.getT_eq s)
theorem runXfalse (w : World) : (endW 20000 RH (w.withFollow "special-get-raises" false)).map (fun x => (HandSHeadRun.looksF RH.prog x.1.heap x.2.abs, HandSHeadRun.seenQ (PySem.W.view RH.prog [0, 109]) nmH (importedModules RH.prog.main.body) (fun s => PySem.W.xlAt (PySem.W.view RH.prog [0, 109]) [] s && PySem.W.recOk RH.toRowW.records s) x.2.abs, obsX 6 exH tsH (HandSHeadRun.getT x.2))) = some (true, PySem.W.openGood (PySem.W.view RH.prog [0, 109]) nmH, (true, tsH.map fun t => some (valI (w.withFollow "special-get-raises" false).params t.2))) := by
  kernel_rfl
theorem runAfalse (w : World) : (endW 20000 RH (w.withFollow "special-get-raises" false)).map (fun x => obsA 6 faH fnH (HandSHeadRun.getT x.2)) = some (He.valD fnH) := by
  kernel_rfl
theorem runXtrue (w : World) : (endW 20000 RH (w.withFollow "special-get-raises" true)).map (fun x => (HandSHeadRun.looksF RH.prog x.1.heap x.2.abs, HandSHeadRun.seenQ (PySem.W.view RH.prog [0, 109]) nmH (importedModules RH.prog.main.body) (fun s => PySem.W.xlAt (PySem.W.view RH.prog [0, 109]) [] s && PySem.W.recOk RH.toRowW.records s) x.2.abs, obsX 6 exH tsH (HandSHeadRun.getT x.2))) = some (true, PySem.W.openGood (PySem.W.view RH.prog [0, 109]) nmH, (true, tsH.map fun t => some (valI (w.withFollow "special-get-raises" true).params t.2))) := by
  kernel_rfl
theorem runAtrue (w : World) : (endW 20000 RH (w.withFollow "special-get-raises" true)).map (fun x => obsA 6 faH fnH (HandSHeadRun.getT x.2)) = some (He.valD fnH) := by
  kernel_rfl
theorem runH (w : World) : HandSHeadRun.RunEqI RH (PySem.W.view RH.prog [0, 109]) hkH obH 20000 nmH w := PySem.W.byRow2 "special-get-raises" (P := fun w => HandSHeadRun.RunEqI RH (PySem.W.view RH.prog [0, 109]) hkH obH 20000 nmH w) (fun w => run_two (runXfalse w) (runAfalse w)) (fun w => run_two (runXtrue w) (runAtrue w)) w
end K31

set_option maxHeartbeats 1000000
/-! < of ints, and of tuples of ints -/
namespace DN
open PySem PySem.Spec PyProof.Rows L2 KG
def lexV (ns ms : List Int) : Bool := Ob.lexAt (fun j => decide (ns.getD j 0 = ms.getD j 0)) (fun j => decide (ns.getD j 0 < ms.getD j 0)) (decide (ns.length < ms.length)) 0 (min ns.length ms.length)
def rLtT (K : PySem.W.Frag) : R2 := fun x y H Q => ∃ (a b : Addr) (ns ms : List Int), x = .ref a ∧ y = .ref b ∧ SqT K H a (ns.map V.int) ∧ SqT K H b (ms.map V.int) ∧ Q (.bl (lexV ns ms)) H
theorem op_ltT {X : Cx} (hu : X.A.units < cLine) : OpR X (compareOp .Lt) (rLtT X.K) := by
  intro pins s σ H x y v u Q I rx ry h
  obtain ⟨a, b, ns, ms, rfl, rfl, ha, hb, q⟩ := h
  cases rx
  cases ry
  obtain ⟨its, r1, p1, _⟩ := I.tuple ha
  obtain ⟨its2, r2, p2, _⟩ := I.tuple hb
  have i1 : IntsAre its ns := Vals.ints r1
  have i2 : IntsAre its2 ms := Vals.ints r2
  have e1 : its.toArray.size = ns.length := by rw [List.size_toArray]; exact i1.length
  have e2 : its2.toArray.size = ms.length := by rw [List.size_toArray]; exact i2.length
  have at1 : ∀ j (h1 : j < its.toArray.size), ∃ t, its.toArray[j] = .int (ns.getD j 0) t := fun j h1 => PyProof.Rows.IntsAre.int_at i1 _ _ (by simp at h1; simp [h1])
  have at2 : ∀ j (h1 : j < its2.toArray.size), ∃ t, its2.toArray[j] = .int (ms.getD j 0) t := fun j h1 => PyProof.Rows.IntsAre.int_at i2 _ _ (by simp at h1; simp [h1])
  have R := Ob.RcOp.tuples_lt (A := X.A) (s := s) (e := fun j => decide (ns.getD j 0 = ms.getD j 0)) (r := fun j => decide (ns.getD j 0 < ms.getD j 0)) p1 p2 hu (fun j h1 h2 => by
    obtain ⟨t, et⟩ := at1 j h1
    obtain ⟨t', et'⟩ := at2 j h2
    rw [et, et']
    have z : (ns.getD j 0 == ms.getD j 0) = decide (ns.getD j 0 = ms.getD j 0) := by
      by_cases q : ns.getD j 0 = ms.getD j 0
      · rw [decide_eq_true q]; exact beq_iff_eq.mpr q
      · rw [decide_eq_false q]; exact beq_eq_false_iff_ne.mpr q
    rw [← z]
    exact SeqAt.EqAt.int_int _ _ _ _) (fun j h1 h2 _ => by
    obtain ⟨t, et⟩ := at1 j h1
    obtain ⟨t', et'⟩ := at2 j h2
    rw [et, et']
    exact Ob.RcOp.lt_int _ _ _ _)
  rw [e1, e2] at R
  have z : wpAny (model X.prog X.w) X.A (compareOp .Lt (.ref a) (.ref b)) (EP X pins σ Q) X.xe s := R X.prog X.w X.xe (EP X pins σ Q) ⟨.bl _, H, I, rfl, q⟩
  exact z
def fLtA : D → D → Option D
  | .int a, .int b => some (.bl (decide (a < b)))
  | .tup a, .tup b => (intL a).bind fun ns => (intL b).bind fun ms => some (.bl (lexV ns ms))
  | _, _ => none
def rLtA (K : PySem.W.Frag) : R2 := fun x y H Q => rI0 (fun i j => .bl (decide (i < j))) x y H Q ∨ rLtT K x y H Q
theorem is_ltA {C : Addr} {K : PySem.W.Frag} : Is2 C (rLtA K) fLtA := fun A G H x y a b d Q sm ra rb hd k => by
  unfold fLtA at hd
  split at hd
  · cases ra; cases rb; cases hd
    exact .inl ⟨_, _, rfl, rfl, k G H _ (.refl sm) (.bl _)⟩
  · obtain ⟨ns, h1, hd⟩ := obind hd
    obtain ⟨ms, h2, hd⟩ := obind hd
    cases hd
    cases ra with
    | tup e1 r1 =>
      cases rb with
      | tup e2 r2 =>
        have q1 := intL_rp r1 h1
        have q2 := intL_rp r2 h2
        subst q1
        subst q2
        exact .inr ⟨_, _, ns, ms, rfl, rfl, .of (sm _ _ e1), .of (sm _ _ e2), k G H _ (.refl sm) (.bl _)⟩
  · cases hd
section
variable {X : Cx} {C : Addr} {pos : Pos} {a b : Expr} {da db : List Sl → Option D}
theorem dn_ltA (hu : X.A.units < cLine) (ha : PE X a (tD C da)) (hb : PE X b (tD C db)) : PE X (.Compare a [.Lt] [b] pos) (tD C (d2 fLtA da db)) := dn_cmp (r := rLtA X.K) is_ltA (op_lt.or (op_ltT hu)) ha hb (nomark _)
theorem dt_ltA (hu : X.A.units < cLine) (ha : PE X a (tD C da)) (hb : PE X b (tD C db)) : PT X (.Compare a [.Lt] [b] pos) (tB C (dAsB (d2 fLtA da db))) := dt_cmp (r := rLtA X.K) is_ltA (op_lt.or (op_ltT hu)) ha hb (nomark _)
end
end DN

set_option maxHeartbeats 4000000
namespace K31
open PySem PySem.Spec PyProof.Rows L2 KG DN
section
variable {P : Program} {w : World} {K : PySem.W.Frag} {mg : Str → Option Value} {base : Heap} {C : Addr}
abbrev splus : Stmt := topS 8
abbrev Nplus : List Str := ["one", "other", "m", "n"]
theorem scplus : FnScope Nplus ["one", "other"] (defScope splus) := ⟨rfl, rfl, rfl, by decide +kernel, rfl, by decide +kernel, by decide +kernel⟩
def denplus : List Sl → Option Out :=
  (sRet (dCall fTuple (ac (dLc (iZipD (ac (dV 0) (ac (dV 1) a0))) (gTu 2 (gcons (gN 2) (gcons (gN 3) gnil))) bYes (d2 fAdd (dV 2) (dV 3)) [2, 3]) a0)))
theorem okplus {f : Addr} {fd : FuncData} {k : Nat} (F : Fun K "plus" "plus" splus f fd) (M : Names mg) : FnOk P w K mg base CX0 (k + 1) f fd ["one", "other"] (SpD C (runD 2 4 (denplus))) :=
  fn_den F scplus fun cdv A outer s H E hr => (ds_one (ds_ret (dn_callTy (is_tuple (K := K)) call_tuple_of (by rfl) M.tuple (by decide +kernel) (da_cons (dn_lc (own := [("m", 2), ("n", 3)]) (by rfl) scplus.nd (di_zip (by rfl) M.zip (da_cons (dn_var (i := 0)) (da_cons (dn_var (i := 1)) da_nil))) (blkOk_by (own := [("m", 2), ("n", 3)]) (N := Nplus) (sc := defScope splus) (by decide +kernel)) (fun _ _ _ _ _ => (dg_tup rfl (dg_cons (dg_name (i := 2) scplus.nd) (dg_cons (dg_name (i := 3) scplus.nd) dg_nil)))) (fun _ _ _ _ _ => dts_nil) (fun _ _ _ _ _ => (dn_add (dn_var (i := 2)) (dn_var (i := 3))))) da_nil))))
abbrev sminus : Stmt := topS 9
abbrev Nminus : List Str := ["one", "other", "m", "n"]
theorem scminus : FnScope Nminus ["one", "other"] (defScope sminus) := ⟨rfl, rfl, rfl, by decide +kernel, rfl, by decide +kernel, by decide +kernel⟩
def denminus : List Sl → Option Out :=
  (sRet (dCall fTuple (ac (dLc (iZipD (ac (dV 0) (ac (dV 1) a0))) (gTu 2 (gcons (gN 2) (gcons (gN 3) gnil))) bYes (d2 fSub (dV 2) (dV 3)) [2, 3]) a0)))
theorem okminus {f : Addr} {fd : FuncData} {k : Nat} (F : Fun K "minus" "minus" sminus f fd) (M : Names mg) : FnOk P w K mg base CX0 (k + 1) f fd ["one", "other"] (SpD C (runD 2 4 (denminus))) :=
  fn_den F scminus fun cdv A outer s H E hr => (ds_one (ds_ret (dn_callTy (is_tuple (K := K)) call_tuple_of (by rfl) M.tuple (by decide +kernel) (da_cons (dn_lc (own := [("m", 2), ("n", 3)]) (by rfl) scminus.nd (di_zip (by rfl) M.zip (da_cons (dn_var (i := 0)) (da_cons (dn_var (i := 1)) da_nil))) (blkOk_by (own := [("m", 2), ("n", 3)]) (N := Nminus) (sc := defScope sminus) (by decide +kernel)) (fun _ _ _ _ _ => (dg_tup rfl (dg_cons (dg_name (i := 2) scminus.nd) (dg_cons (dg_name (i := 3) scminus.nd) dg_nil)))) (fun _ _ _ _ _ => dts_nil) (fun _ _ _ _ _ => (dn_sub (dn_var (i := 2)) (dn_var (i := 3))))) da_nil))))
abbrev stimes : Stmt := topS 10
abbrev Ntimes : List Str := ["vector", "factor", "n"]
theorem sctimes : FnScope Ntimes ["vector", "factor"] (defScope stimes) := ⟨rfl, rfl, rfl, by decide +kernel, rfl, by decide +kernel, by decide +kernel⟩
def dentimes : List Sl → Option Out :=
  (sRet (dCall fTuple (ac (dLc (iSeq (dV 0)) (gN 2) bYes (d2 fMul (dV 2) (dV 1)) [2]) a0)))
theorem oktimes {f : Addr} {fd : FuncData} {k : Nat} (F : Fun K "times" "times" stimes f fd) (M : Names mg) : FnOk P w K mg base CX0 (k + 1) f fd ["vector", "factor"] (SpD C (runD 2 3 (dentimes))) :=
  fn_den F sctimes fun cdv A outer s H E hr => (ds_one (ds_ret (dn_callTy (is_tuple (K := K)) call_tuple_of (by rfl) M.tuple (by decide +kernel) (da_cons (dn_lc (own := [("n", 2)]) (by rfl) sctimes.nd (di_seq (dn_var (i := 0))) (blkOk_by (own := [("n", 2)]) (N := Ntimes) (sc := defScope stimes) (by decide +kernel)) (fun _ _ _ _ _ => (dg_name (i := 2) sctimes.nd)) (fun _ _ _ _ _ => dts_nil) (fun _ _ _ _ _ => (dn_mul (dn_var (i := 2)) (dn_var (i := 1))))) da_nil))))
abbrev spadded : Stmt := topS 11
abbrev Npadded : List Str := ["vector", "size"]
theorem scpadded : FnScope Npadded ["vector", "size"] (defScope spadded) := ⟨rfl, rfl, rfl, by decide +kernel, rfl, by decide +kernel, by decide +kernel⟩
def denpadded : List Sl → Option Out :=
  (sRet (d2 fAdd (dV 0) (d2 fMul (dTup (ac (dK (.int 0)) a0)) (d2 fSub (dV 1) (dCall fLen (ac (dV 0) a0))))))
theorem okpadded {f : Addr} {fd : FuncData} {k : Nat} (F : Fun K "padded" "padded" spadded f fd) (M : Names mg) : FnOk P w K mg base CX0 (k + 1) f fd ["vector", "size"] (SpD C (runD 2 2 (denpadded))) :=
  fn_den F scpadded fun cdv A outer s H E hr => (ds_one (ds_ret (dn_add (dn_var (i := 0)) (dn_mul (dn_tup (da_cons dn_int da_nil)) (dn_sub (dn_var (i := 1)) (dn_callB is_len call_len_seq (by rfl) M.len PySem.boot_len (da_cons (dn_var (i := 0)) da_nil)))))))
abbrev slast_generator : Stmt := topS 12
abbrev Nlast_generator : List Str := ["tower", "vector"]
theorem sclast_generator : FnScope Nlast_generator ["tower", "vector"] (defScope slast_generator) := ⟨rfl, rfl, rfl, by decide +kernel, rfl, by decide +kernel, by decide +kernel⟩
def denlast_generator : List Sl → Option Out :=
  (sRet (d2 fIx (dV 0) (d2 fSub (d1 fBits (dCall fLen (ac (dV 1) a0))) (dK (.int 2)))))
theorem oklast_generator {f : Addr} {fd : FuncData} {k : Nat} (F : Fun K "last_generator" "last_generator" slast_generator f fd) (M : Names mg) : FnOk P w K mg base CX0 (k + 1) f fd ["tower", "vector"] (SpD C (runD 2 2 (denlast_generator))) :=
  fn_den F sclast_generator fun cdv A outer s H E hr => (ds_one (ds_ret (dn_sub_ix (dn_var (i := 0)) (dn_sub (dn_bits (dn_callB is_len call_len_seq (by rfl) M.len PySem.boot_len (da_cons (dn_var (i := 1)) da_nil))) dn_int) (fun _ _ => rfl))))
abbrev smultiplied : Stmt := topS 13
abbrev Nmultiplied : List Str := ["tower", "one", "other", "half", "low", "high", "lows", "highs", "mixed", "raised"]
theorem scmultiplied : FnScope Nmultiplied ["tower", "one", "other"] (defScope smultiplied) := ⟨rfl, rfl, rfl, by decide +kernel, rfl, by decide +kernel, by decide +kernel⟩
def denmultiplied (cmultiplied : List D → Option D) (cplus : List D → Option D) (clast_generator : List D → Option D) (cby_generator : List D → Option D) (cminus : List D → Option D) : List Sl → Option Out :=
  (sSeq (sSet 3 (d2 fDiv (dCall fLen (ac (dV 1) a0)) (dK (.int 2))))
  (sSeq (sIf (dAsB (d2 fEq (dV 3) (dK (.int 0))))
    (sRet (dTup (ac (d2 fMul (d2 fIx (dV 1) (dK (.int 0))) (d2 fIx (dV 2) (dK (.int 0)))) a0)))
    sNext)
  (sSeq (sIf (dAsB (d2 fEq (dV 3) (dK (.int 1))))
    (sRet (dTup (ac (d2 fAdd (d2 fMul (d2 fIx (dV 1) (dK (.int 0))) (d2 fIx (dV 2) (dK (.int 0)))) (d2 fMul (d2 fMul (d2 fIx (d2 fIx (dV 0) (dK (.int 0))) (dK (.int 0))) (d2 fIx (dV 1) (dK (.int 1)))) (d2 fIx (dV 2) (dK (.int 1))))) (ac (d2 fAdd (d2 fMul (d2 fIx (dV 1) (dK (.int 0))) (d2 fIx (dV 2) (dK (.int 1)))) (d2 fMul (d2 fIx (dV 1) (dK (.int 1))) (d2 fIx (dV 2) (dK (.int 0))))) a0))))
    sNext)
  (sSeq (sPar 4 5 (ac (dSl (dV 1) p0 (p1 (dV 3))) (ac (dSl (dV 1) (p1 (dV 3)) p0) a0)))
  (sSeq (sIf (bNot (dTru (dCall fAny (ac (dV 5) a0))))
    (sRet (d2 fAdd (dCall cmultiplied (ac (dV 0) (ac (dV 4) (ac (dSl (dV 2) p0 (p1 (dV 3))) a0)))) (dCall cmultiplied (ac (dV 0) (ac (dV 4) (ac (dSl (dV 2) (p1 (dV 3)) p0) a0))))))
    sNext)
  (sSeq (sIf (bNot (dTru (dCall fAny (ac (dSl (dV 2) (p1 (dV 3)) p0) a0))))
    (sRet (d2 fAdd (dCall cmultiplied (ac (dV 0) (ac (dV 4) (ac (dSl (dV 2) p0 (p1 (dV 3))) a0)))) (dCall cmultiplied (ac (dV 0) (ac (dV 5) (ac (dSl (dV 2) p0 (p1 (dV 3))) a0))))))
    sNext)
  (sSeq (sSet 6 (dCall cmultiplied (ac (dV 0) (ac (dV 4) (ac (dSl (dV 2) p0 (p1 (dV 3))) a0)))))
  (sSeq (sSet 7 (dCall cmultiplied (ac (dV 0) (ac (dV 5) (ac (dSl (dV 2) (p1 (dV 3)) p0) a0)))))
  (sSeq (sSet 8 (dCall cmultiplied (ac (dV 0) (ac (dCall cplus (ac (dV 4) (ac (dV 5) a0))) (ac (dCall cplus (ac (dSl (dV 2) p0 (p1 (dV 3))) (ac (dSl (dV 2) (p1 (dV 3)) p0) a0))) a0)))))
  (sSeq (sSet 9 (dCall cby_generator (ac (dV 0) (ac (dCall clast_generator (ac (dV 0) (ac (dV 1) a0))) (ac (dV 7) a0)))))
  (sRet (d2 fAdd (dCall cplus (ac (dV 6) (ac (dV 9) a0))) (dCall cminus (ac (dCall cminus (ac (dV 8) (ac (dV 6) a0))) (ac (dV 7) a0)))))))))))))))
theorem okmultiplied {f : Addr} {fd : FuncData} {k : Nat} (F : Fun K "multiplied" "multiplied" smultiplied f fd) (M : Names mg) {cmultiplied : List D → Option D} {cplus : List D → Option D} {clast_generator : List D → Option D} {cby_generator : List D → Option D} {cminus : List D → Option D} (Gmultiplied : Cal P w K mg base k "multiplied" ["tower", "one", "other"] (SpD C cmultiplied)) (Gplus : Cal P w K mg base k "plus" ["one", "other"] (SpD C cplus)) (Glast_generator : Cal P w K mg base k "last_generator" ["tower", "vector"] (SpD C clast_generator)) (Gby_generator : Cal P w K mg base k "by_generator" ["tower", "generator", "vector"] (SpD C cby_generator)) (Gminus : Cal P w K mg base k "minus" ["one", "other"] (SpD C cminus)) : FnOk P w K mg base CX0 (k + 1) f fd ["tower", "one", "other"] (SpD C (runD 3 10 (denmultiplied cmultiplied cplus clast_generator cby_generator cminus))) :=
  fn_den F scmultiplied fun cdv A outer s H E hr => (ds_cons (ds_set (i := 3) scmultiplied.nd (dn_div (dn_callB is_len call_len_seq (by rfl) M.len PySem.boot_len (da_cons (dn_var (i := 1)) da_nil)) dn_int))
  (ds_cons (ds_if (dt_eq hr.units (dn_var (i := 3)) dn_int)
    (ds_one (ds_ret (dn_tup (da_cons (dn_mul (dn_sub_ix (dn_var (i := 1)) dn_int (fun _ _ => rfl)) (dn_sub_ix (dn_var (i := 2)) dn_int (fun _ _ => rfl))) da_nil))))
    ds_nil)
  (ds_cons (ds_if (dt_eq hr.units (dn_var (i := 3)) dn_int)
    (ds_one (ds_ret (dn_tup (da_cons (dn_add (dn_mul (dn_sub_ix (dn_var (i := 1)) dn_int (fun _ _ => rfl)) (dn_sub_ix (dn_var (i := 2)) dn_int (fun _ _ => rfl))) (dn_mul (dn_mul (dn_sub_ix (dn_sub_ix (dn_var (i := 0)) dn_int (fun _ _ => rfl)) dn_int (fun _ _ => rfl)) (dn_sub_ix (dn_var (i := 1)) dn_int (fun _ _ => rfl))) (dn_sub_ix (dn_var (i := 2)) dn_int (fun _ _ => rfl)))) (da_cons (dn_add (dn_mul (dn_sub_ix (dn_var (i := 1)) dn_int (fun _ _ => rfl)) (dn_sub_ix (dn_var (i := 2)) dn_int (fun _ _ => rfl))) (dn_mul (dn_sub_ix (dn_var (i := 1)) dn_int (fun _ _ => rfl)) (dn_sub_ix (dn_var (i := 2)) dn_int (fun _ _ => rfl)))) da_nil)))))
    ds_nil)
  (ds_cons (ds_par (i := 4) (j := 5) rfl scmultiplied.nd (da_cons (dn_slice (dn_var (i := 1)) dp_none (dp_some (dn_var (i := 3)))) (da_cons (dn_slice (dn_var (i := 1)) (dp_some (dn_var (i := 3))) dp_none) da_nil)))
  (ds_cons (ds_if (dt_not (dt_truth (dn_callB (is_any (K := K)) (cr_anyA rfl) (by rfl) M.any (by decide +kernel) (da_cons (dn_var (i := 5)) da_nil))))
    (ds_one (ds_ret (dn_add (dn_call Gmultiplied.ok hr (by rfl) Gmultiplied.m Gmultiplied.kp Gmultiplied.b pass0 (da_cons (dn_var (i := 0)) (da_cons (dn_var (i := 4)) (da_cons (dn_slice (dn_var (i := 2)) dp_none (dp_some (dn_var (i := 3)))) da_nil)))) (dn_call Gmultiplied.ok hr (by rfl) Gmultiplied.m Gmultiplied.kp Gmultiplied.b pass0 (da_cons (dn_var (i := 0)) (da_cons (dn_var (i := 4)) (da_cons (dn_slice (dn_var (i := 2)) (dp_some (dn_var (i := 3))) dp_none) da_nil)))))))
    ds_nil)
  (ds_cons (ds_if (dt_not (dt_truth (dn_callB (is_any (K := K)) (cr_anyA rfl) (by rfl) M.any (by decide +kernel) (da_cons (dn_slice (dn_var (i := 2)) (dp_some (dn_var (i := 3))) dp_none) da_nil))))
    (ds_one (ds_ret (dn_add (dn_call Gmultiplied.ok hr (by rfl) Gmultiplied.m Gmultiplied.kp Gmultiplied.b pass0 (da_cons (dn_var (i := 0)) (da_cons (dn_var (i := 4)) (da_cons (dn_slice (dn_var (i := 2)) dp_none (dp_some (dn_var (i := 3)))) da_nil)))) (dn_call Gmultiplied.ok hr (by rfl) Gmultiplied.m Gmultiplied.kp Gmultiplied.b pass0 (da_cons (dn_var (i := 0)) (da_cons (dn_var (i := 5)) (da_cons (dn_slice (dn_var (i := 2)) dp_none (dp_some (dn_var (i := 3)))) da_nil)))))))
    ds_nil)
  (ds_cons (ds_set (i := 6) scmultiplied.nd (dn_call Gmultiplied.ok hr (by rfl) Gmultiplied.m Gmultiplied.kp Gmultiplied.b pass0 (da_cons (dn_var (i := 0)) (da_cons (dn_var (i := 4)) (da_cons (dn_slice (dn_var (i := 2)) dp_none (dp_some (dn_var (i := 3)))) da_nil)))))
  (ds_cons (ds_set (i := 7) scmultiplied.nd (dn_call Gmultiplied.ok hr (by rfl) Gmultiplied.m Gmultiplied.kp Gmultiplied.b pass0 (da_cons (dn_var (i := 0)) (da_cons (dn_var (i := 5)) (da_cons (dn_slice (dn_var (i := 2)) (dp_some (dn_var (i := 3))) dp_none) da_nil)))))
  (ds_cons (ds_set (i := 8) scmultiplied.nd (dn_call Gmultiplied.ok hr (by rfl) Gmultiplied.m Gmultiplied.kp Gmultiplied.b pass0 (da_cons (dn_var (i := 0)) (da_cons (dn_call Gplus.ok hr (by rfl) Gplus.m Gplus.kp Gplus.b pass0 (da_cons (dn_var (i := 4)) (da_cons (dn_var (i := 5)) da_nil))) (da_cons (dn_call Gplus.ok hr (by rfl) Gplus.m Gplus.kp Gplus.b pass0 (da_cons (dn_slice (dn_var (i := 2)) dp_none (dp_some (dn_var (i := 3)))) (da_cons (dn_slice (dn_var (i := 2)) (dp_some (dn_var (i := 3))) dp_none) da_nil))) da_nil)))))
  (ds_cons (ds_set (i := 9) scmultiplied.nd (dn_call Gby_generator.ok hr (by rfl) Gby_generator.m Gby_generator.kp Gby_generator.b pass0 (da_cons (dn_var (i := 0)) (da_cons (dn_call Glast_generator.ok hr (by rfl) Glast_generator.m Glast_generator.kp Glast_generator.b pass0 (da_cons (dn_var (i := 0)) (da_cons (dn_var (i := 1)) da_nil))) (da_cons (dn_var (i := 7)) da_nil)))))
  (ds_one (ds_ret (dn_add (dn_call Gplus.ok hr (by rfl) Gplus.m Gplus.kp Gplus.b pass0 (da_cons (dn_var (i := 6)) (da_cons (dn_var (i := 9)) da_nil))) (dn_call Gminus.ok hr (by rfl) Gminus.m Gminus.kp Gminus.b pass0 (da_cons (dn_call Gminus.ok hr (by rfl) Gminus.m Gminus.kp Gminus.b pass0 (da_cons (dn_var (i := 8)) (da_cons (dn_var (i := 6)) da_nil))) (da_cons (dn_var (i := 7)) da_nil))))))))))))))))
abbrev sby_generator : Stmt := topS 14
abbrev Nby_generator : List Str := ["tower", "generator", "vector"]
theorem scby_generator : FnScope Nby_generator ["tower", "generator", "vector"] (defScope sby_generator) := ⟨rfl, rfl, rfl, by decide +kernel, rfl, by decide +kernel, by decide +kernel⟩
def denby_generator (cmultiplied : List D → Option D) (ctimes : List D → Option D) : List Sl → Option Out :=
  (sSeq (sIf (dTru (dCall fAny (ac (dSl (dV 1) (p1 (dK (.int 1))) p0) a0)))
    (sRet (dCall cmultiplied (ac (dV 0) (ac (dV 1) (ac (dV 2) a0)))))
    sNext)
  (sRet (dCall ctimes (ac (dV 2) (ac (d2 fIx (dV 1) (dK (.int 0))) a0)))))
theorem okby_generator {f : Addr} {fd : FuncData} {k : Nat} (F : Fun K "by_generator" "by_generator" sby_generator f fd) (M : Names mg) {cmultiplied : List D → Option D} {ctimes : List D → Option D} (Gmultiplied : Cal P w K mg base k "multiplied" ["tower", "one", "other"] (SpD C cmultiplied)) (Gtimes : Cal P w K mg base k "times" ["vector", "factor"] (SpD C ctimes)) : FnOk P w K mg base CX0 (k + 1) f fd ["tower", "generator", "vector"] (SpD C (runD 3 3 (denby_generator cmultiplied ctimes))) :=
  fn_den F scby_generator fun cdv A outer s H E hr => (ds_cons (ds_if (dt_truth (dn_callB (is_any (K := K)) (cr_anyA rfl) (by rfl) M.any (by decide +kernel) (da_cons (dn_slice (dn_var (i := 1)) (dp_some dn_int) dp_none) da_nil)))
    (ds_one (ds_ret (dn_call Gmultiplied.ok hr (by rfl) Gmultiplied.m Gmultiplied.kp Gmultiplied.b pass0 (da_cons (dn_var (i := 0)) (da_cons (dn_var (i := 1)) (da_cons (dn_var (i := 2)) da_nil))))))
    ds_nil)
  (ds_one (ds_ret (dn_call Gtimes.ok hr (by rfl) Gtimes.m Gtimes.kp Gtimes.b pass0 (da_cons (dn_var (i := 2)) (da_cons (dn_sub_ix (dn_var (i := 1)) dn_int (fun _ _ => rfl)) da_nil))))))
abbrev snorm : Stmt := topS 15
abbrev Nnorm : List Str := ["tower", "vector", "half", "low", "high", "squared"]
theorem scnorm : FnScope Nnorm ["tower", "vector"] (defScope snorm) := ⟨rfl, rfl, rfl, by decide +kernel, rfl, by decide +kernel, by decide +kernel⟩
def dennorm (cmultiplied : List D → Option D) (clast_generator : List D → Option D) (cby_generator : List D → Option D) (cminus : List D → Option D) : List Sl → Option Out :=
  (sSeq (sSet 2 (d2 fDiv (dCall fLen (ac (dV 1) a0)) (dK (.int 2))))
  (sSeq (sPar 3 4 (ac (dSl (dV 1) p0 (p1 (dV 2))) (ac (dSl (dV 1) (p1 (dV 2)) p0) a0)))
  (sSeq (sSet 5 (dCall cmultiplied (ac (dV 0) (ac (dV 4) (ac (dV 4) a0)))))
  (sRet (dCall cminus (ac (dCall cmultiplied (ac (dV 0) (ac (dV 3) (ac (dV 3) a0)))) (ac (dCall cby_generator (ac (dV 0) (ac (dCall clast_generator (ac (dV 0) (ac (dV 1) a0))) (ac (dV 5) a0)))) a0)))))))
theorem oknorm {f : Addr} {fd : FuncData} {k : Nat} (F : Fun K "norm" "norm" snorm f fd) (M : Names mg) {cmultiplied : List D → Option D} {clast_generator : List D → Option D} {cby_generator : List D → Option D} {cminus : List D → Option D} (Gmultiplied : Cal P w K mg base k "multiplied" ["tower", "one", "other"] (SpD C cmultiplied)) (Glast_generator : Cal P w K mg base k "last_generator" ["tower", "vector"] (SpD C clast_generator)) (Gby_generator : Cal P w K mg base k "by_generator" ["tower", "generator", "vector"] (SpD C cby_generator)) (Gminus : Cal P w K mg base k "minus" ["one", "other"] (SpD C cminus)) : FnOk P w K mg base CX0 (k + 1) f fd ["tower", "vector"] (SpD C (runD 2 6 (dennorm cmultiplied clast_generator cby_generator cminus))) :=
  fn_den F scnorm fun cdv A outer s H E hr => (ds_cons (ds_set (i := 2) scnorm.nd (dn_div (dn_callB is_len call_len_seq (by rfl) M.len PySem.boot_len (da_cons (dn_var (i := 1)) da_nil)) dn_int))
  (ds_cons (ds_par (i := 3) (j := 4) rfl scnorm.nd (da_cons (dn_slice (dn_var (i := 1)) dp_none (dp_some (dn_var (i := 2)))) (da_cons (dn_slice (dn_var (i := 1)) (dp_some (dn_var (i := 2))) dp_none) da_nil)))
  (ds_cons (ds_set (i := 5) scnorm.nd (dn_call Gmultiplied.ok hr (by rfl) Gmultiplied.m Gmultiplied.kp Gmultiplied.b pass0 (da_cons (dn_var (i := 0)) (da_cons (dn_var (i := 4)) (da_cons (dn_var (i := 4)) da_nil)))))
  (ds_one (ds_ret (dn_call Gminus.ok hr (by rfl) Gminus.m Gminus.kp Gminus.b pass0 (da_cons (dn_call Gmultiplied.ok hr (by rfl) Gmultiplied.m Gmultiplied.kp Gmultiplied.b pass0 (da_cons (dn_var (i := 0)) (da_cons (dn_var (i := 3)) (da_cons (dn_var (i := 3)) da_nil)))) (da_cons (dn_call Gby_generator.ok hr (by rfl) Gby_generator.m Gby_generator.kp Gby_generator.b pass0 (da_cons (dn_var (i := 0)) (da_cons (dn_call Glast_generator.ok hr (by rfl) Glast_generator.m Glast_generator.kp Glast_generator.b pass0 (da_cons (dn_var (i := 0)) (da_cons (dn_var (i := 1)) da_nil))) (da_cons (dn_var (i := 5)) da_nil)))) da_nil))))))))
abbrev slowest : Stmt := topS 16
abbrev Nlowest : List Str := ["vector", "scale", "common", "n"]
theorem sclowest : FnScope Nlowest ["vector", "scale"] (defScope slowest) := ⟨rfl, rfl, rfl, by decide +kernel, rfl, by decide +kernel, by decide +kernel⟩
def denlowest : List Sl → Option Out :=
  (sSeq (sSet 2 (dV 1))
  (sSeq (sFor (iSeq (dV 0)) (gN 3)
    (sSeq (sIf (dAsB (d2 fEq (dV 2) (dK (.int 1))))
      sBrk
      sNext)
    (sSet 2 (dCall fGcd (ac (dV 2) (ac (dV 3) a0))))))
  (sSeq (sIf (dAsB (d2 fLtA (dV 1) (dK (.int 0))))
    (sSet 2 (d1 (fI1 fun i => -i) (dCall fAbs (ac (dV 2) a0))))
    sNext)
  (sSeq (sIf (dAsB (d2 fEq (dV 2) (dK (.int 1))))
    (sRet (dTup (ac (dV 0) (ac (dV 1) a0))))
    sNext)
  (sRet (dTup (ac (dCall fTuple (ac (dLc (iSeq (dV 0)) (gN 3) bYes (d2 fDiv (dV 3) (dV 2)) [3]) a0)) (ac (d2 fDiv (dV 1) (dV 2)) a0))))))))
theorem oklowest {f : Addr} {fd : FuncData} {k : Nat} (F : Fun K "lowest" "lowest" slowest f fd) (M : Names mg) : FnOk P w K mg base CX0 (k + 1) f fd ["vector", "scale"] (SpD C (runD 2 4 (denlowest))) :=
  fn_den F sclowest fun cdv A outer s H E hr => (ds_cons (ds_set (i := 2) sclowest.nd (dn_var (i := 1)))
  (ds_cons (ds_for PassesOwn.never rfl (di_seq (dn_var (i := 0))) (dg_name (i := 3) sclowest.nd)
    (ds_cons (ds_if (dt_eq hr.units (dn_var (i := 2)) dn_int)
      (ds_one ds_break)
      ds_nil)
    (ds_one (ds_set (i := 2) sclowest.nd (dn_callBfun is_gcd cr_gcd (by rfl) M.gcd (da_cons (dn_var (i := 2)) (da_cons (dn_var (i := 3)) da_nil)))))))
  (ds_cons (ds_if (dt_ltA hr.units0 (dn_var (i := 1)) dn_int)
    (ds_one (ds_set (i := 2) sclowest.nd (dn_neg (dn_callB is_abs call_abs (by rfl) M.abs (by decide +kernel) (da_cons (dn_var (i := 2)) da_nil)))))
    ds_nil)
  (ds_cons (ds_if (dt_eq hr.units (dn_var (i := 2)) dn_int)
    (ds_one (ds_ret (dn_tup (da_cons (dn_var (i := 0)) (da_cons (dn_var (i := 1)) da_nil)))))
    ds_nil)
  (ds_one (ds_ret (dn_tup (da_cons (dn_callTy (is_tuple (K := K)) call_tuple_of (by rfl) M.tuple (by decide +kernel) (da_cons (dn_lc (own := [("n", 3)]) (by rfl) sclowest.nd (di_seq (dn_var (i := 0))) (blkOk_by (own := [("n", 3)]) (N := Nlowest) (sc := defScope slowest) (by decide +kernel)) (fun _ _ _ _ _ => (dg_name (i := 3) sclowest.nd)) (fun _ _ _ _ _ => dts_nil) (fun _ _ _ _ _ => (dn_div (dn_var (i := 3)) (dn_var (i := 2))))) da_nil)) (da_cons (dn_div (dn_var (i := 1)) (dn_var (i := 2))) da_nil)))))))))
abbrev sinverse : Stmt := topS 17
abbrev Ninverse : List Str := ["tower", "vector", "half", "low", "high", "turned", "scale"]
theorem scinverse : FnScope Ninverse ["tower", "vector"] (defScope sinverse) := ⟨rfl, rfl, rfl, by decide +kernel, rfl, by decide +kernel, by decide +kernel⟩
def deninverse (clowest : List D → Option D) (cinverse : List D → Option D) (cpadded : List D → Option D) (cnorm : List D → Option D) (cmultiplied : List D → Option D) (ctimes : List D → Option D) : List Sl → Option Out :=
  (sSeq (sSet 2 (d2 fDiv (dCall fLen (ac (dV 1) a0)) (dK (.int 2))))
  (sSeq (sIf (dAsB (d2 fEq (dV 2) (dK (.int 0))))
    (sRet (dCall clowest (ac (dTup (ac (dK (.int 1)) a0)) (ac (d2 fIx (dV 1) (dK (.int 0))) a0))))
    sNext)
  (sSeq (sPar 3 4 (ac (dSl (dV 1) p0 (p1 (dV 2))) (ac (dSl (dV 1) (p1 (dV 2)) p0) a0)))
  (sSeq (sIf (bNot (dTru (dCall fAny (ac (dV 4) a0))))
    (sSeq (sAsg (dCall cinverse (ac (dV 0) (ac (dV 3) a0))) (gTu 2 (gcons (gN 5) (gcons (gN 6) gnil))))
    (sRet (dTup (ac (dCall cpadded (ac (dV 5) (ac (dCall fLen (ac (dV 1) a0)) a0))) (ac (dV 6) a0)))))
    sNext)
  (sSeq (sAsg (dCall cinverse (ac (dV 0) (ac (dCall cnorm (ac (dV 0) (ac (dV 1) a0))) a0))) (gTu 2 (gcons (gN 5) (gcons (gN 6) gnil))))
  (sRet (dCall clowest (ac (d2 fAdd (dCall cmultiplied (ac (dV 0) (ac (dV 3) (ac (dV 5) a0)))) (dCall cmultiplied (ac (dV 0) (ac (dCall ctimes (ac (dV 4) (ac (d1 (fI1 fun i => -i) (dK (.int 1))) a0))) (ac (dV 5) a0))))) (ac (dV 6) a0)))))))))
theorem okinverse {f : Addr} {fd : FuncData} {k : Nat} (F : Fun K "inverse" "inverse" sinverse f fd) (M : Names mg) {clowest : List D → Option D} {cinverse : List D → Option D} {cpadded : List D → Option D} {cnorm : List D → Option D} {cmultiplied : List D → Option D} {ctimes : List D → Option D} (Glowest : Cal P w K mg base k "lowest" ["vector", "scale"] (SpD C clowest)) (Ginverse : Cal P w K mg base k "inverse" ["tower", "vector"] (SpD C cinverse)) (Gpadded : Cal P w K mg base k "padded" ["vector", "size"] (SpD C cpadded)) (Gnorm : Cal P w K mg base k "norm" ["tower", "vector"] (SpD C cnorm)) (Gmultiplied : Cal P w K mg base k "multiplied" ["tower", "one", "other"] (SpD C cmultiplied)) (Gtimes : Cal P w K mg base k "times" ["vector", "factor"] (SpD C ctimes)) : FnOk P w K mg base CX0 (k + 1) f fd ["tower", "vector"] (SpD C (runD 2 7 (deninverse clowest cinverse cpadded cnorm cmultiplied ctimes))) :=
  fn_den F scinverse fun cdv A outer s H E hr => (ds_cons (ds_set (i := 2) scinverse.nd (dn_div (dn_callB is_len call_len_seq (by rfl) M.len PySem.boot_len (da_cons (dn_var (i := 1)) da_nil)) dn_int))
  (ds_cons (ds_if (dt_eq hr.units (dn_var (i := 2)) dn_int)
    (ds_one (ds_ret (dn_call Glowest.ok hr (by rfl) Glowest.m Glowest.kp Glowest.b pass0 (da_cons (dn_tup (da_cons dn_int da_nil)) (da_cons (dn_sub_ix (dn_var (i := 1)) dn_int (fun _ _ => rfl)) da_nil)))))
    ds_nil)
  (ds_cons (ds_par (i := 3) (j := 4) rfl scinverse.nd (da_cons (dn_slice (dn_var (i := 1)) dp_none (dp_some (dn_var (i := 2)))) (da_cons (dn_slice (dn_var (i := 1)) (dp_some (dn_var (i := 2))) dp_none) da_nil)))
  (ds_cons (ds_if (dt_not (dt_truth (dn_callB (is_any (K := K)) (cr_anyA rfl) (by rfl) M.any (by decide +kernel) (da_cons (dn_var (i := 4)) da_nil))))
    (ds_cons (ds_asg (dn_call Ginverse.ok hr (by rfl) Ginverse.m Ginverse.kp Ginverse.b pass0 (da_cons (dn_var (i := 0)) (da_cons (dn_var (i := 3)) da_nil))) (dg_tup rfl (dg_cons (dg_name (i := 5) scinverse.nd) (dg_cons (dg_name (i := 6) scinverse.nd) dg_nil))))
    (ds_one (ds_ret (dn_tup (da_cons (dn_call Gpadded.ok hr (by rfl) Gpadded.m Gpadded.kp Gpadded.b pass0 (da_cons (dn_var (i := 5)) (da_cons (dn_callB is_len call_len_seq (by rfl) M.len PySem.boot_len (da_cons (dn_var (i := 1)) da_nil)) da_nil))) (da_cons (dn_var (i := 6)) da_nil))))))
    ds_nil)
  (ds_cons (ds_asg (dn_call Ginverse.ok hr (by rfl) Ginverse.m Ginverse.kp Ginverse.b pass0 (da_cons (dn_var (i := 0)) (da_cons (dn_call Gnorm.ok hr (by rfl) Gnorm.m Gnorm.kp Gnorm.b pass0 (da_cons (dn_var (i := 0)) (da_cons (dn_var (i := 1)) da_nil))) da_nil))) (dg_tup rfl (dg_cons (dg_name (i := 5) scinverse.nd) (dg_cons (dg_name (i := 6) scinverse.nd) dg_nil))))
  (ds_one (ds_ret (dn_call Glowest.ok hr (by rfl) Glowest.m Glowest.kp Glowest.b pass0 (da_cons (dn_add (dn_call Gmultiplied.ok hr (by rfl) Gmultiplied.m Gmultiplied.kp Gmultiplied.b pass0 (da_cons (dn_var (i := 0)) (da_cons (dn_var (i := 3)) (da_cons (dn_var (i := 5)) da_nil)))) (dn_call Gmultiplied.ok hr (by rfl) Gmultiplied.m Gmultiplied.kp Gmultiplied.b pass0 (da_cons (dn_var (i := 0)) (da_cons (dn_call Gtimes.ok hr (by rfl) Gtimes.m Gtimes.kp Gtimes.b pass0 (da_cons (dn_var (i := 4)) (da_cons (dn_neg dn_int) da_nil))) (da_cons (dn_var (i := 5)) da_nil))))) (da_cons (dn_var (i := 6)) da_nil))))))))))
abbrev selement_sum : Stmt := topS 18
abbrev Nelement_sum : List Str := ["one", "other", "vector", "scale", "second", "divider"]
theorem scelement_sum : FnScope Nelement_sum ["one", "other"] (defScope selement_sum) := ⟨rfl, rfl, rfl, by decide +kernel, rfl, by decide +kernel, by decide +kernel⟩
def denelement_sum (ctimes : List D → Option D) (cplus : List D → Option D) (clowest : List D → Option D) : List Sl → Option Out :=
  (sSeq (sAsg (dTup (ac (dV 0) (ac (dV 1) a0))) (gTu 2 (gcons (gTu 2 (gcons (gN 2) (gcons (gN 3) gnil))) (gcons (gTu 2 (gcons (gN 4) (gcons (gN 5) gnil))) gnil))))
  (sRet (dCall clowest (ac (dCall cplus (ac (dCall ctimes (ac (dV 2) (ac (dV 5) a0))) (ac (dCall ctimes (ac (dV 4) (ac (dV 3) a0))) a0))) (ac (d2 fMul (dV 3) (dV 5)) a0)))))
theorem okelement_sum {f : Addr} {fd : FuncData} {k : Nat} (F : Fun K "element_sum" "element_sum" selement_sum f fd) (M : Names mg) {ctimes : List D → Option D} {cplus : List D → Option D} {clowest : List D → Option D} (Gtimes : Cal P w K mg base k "times" ["vector", "factor"] (SpD C ctimes)) (Gplus : Cal P w K mg base k "plus" ["one", "other"] (SpD C cplus)) (Glowest : Cal P w K mg base k "lowest" ["vector", "scale"] (SpD C clowest)) : FnOk P w K mg base CX0 (k + 1) f fd ["one", "other"] (SpD C (runD 2 6 (denelement_sum ctimes cplus clowest))) :=
  fn_den F scelement_sum fun cdv A outer s H E hr => (ds_cons (ds_asg (dn_tup (da_cons (dn_var (i := 0)) (da_cons (dn_var (i := 1)) da_nil))) (dg_tup rfl (dg_cons (dg_tup rfl (dg_cons (dg_name (i := 2) scelement_sum.nd) (dg_cons (dg_name (i := 3) scelement_sum.nd) dg_nil))) (dg_cons (dg_tup rfl (dg_cons (dg_name (i := 4) scelement_sum.nd) (dg_cons (dg_name (i := 5) scelement_sum.nd) dg_nil))) dg_nil))))
  (ds_one (ds_ret (dn_call Glowest.ok hr (by rfl) Glowest.m Glowest.kp Glowest.b pass0 (da_cons (dn_call Gplus.ok hr (by rfl) Gplus.m Gplus.kp Gplus.b pass0 (da_cons (dn_call Gtimes.ok hr (by rfl) Gtimes.m Gtimes.kp Gtimes.b pass0 (da_cons (dn_var (i := 2)) (da_cons (dn_var (i := 5)) da_nil))) (da_cons (dn_call Gtimes.ok hr (by rfl) Gtimes.m Gtimes.kp Gtimes.b pass0 (da_cons (dn_var (i := 4)) (da_cons (dn_var (i := 3)) da_nil))) da_nil))) (da_cons (dn_mul (dn_var (i := 3)) (dn_var (i := 5))) da_nil))))))
abbrev selement_difference : Stmt := topS 19
abbrev Nelement_difference : List Str := ["one", "other", "vector", "scale", "second", "divider"]
theorem scelement_difference : FnScope Nelement_difference ["one", "other"] (defScope selement_difference) := ⟨rfl, rfl, rfl, by decide +kernel, rfl, by decide +kernel, by decide +kernel⟩
def denelement_difference (ctimes : List D → Option D) (cminus : List D → Option D) (clowest : List D → Option D) : List Sl → Option Out :=
  (sSeq (sAsg (dTup (ac (dV 0) (ac (dV 1) a0))) (gTu 2 (gcons (gTu 2 (gcons (gN 2) (gcons (gN 3) gnil))) (gcons (gTu 2 (gcons (gN 4) (gcons (gN 5) gnil))) gnil))))
  (sRet (dCall clowest (ac (dCall cminus (ac (dCall ctimes (ac (dV 2) (ac (dV 5) a0))) (ac (dCall ctimes (ac (dV 4) (ac (dV 3) a0))) a0))) (ac (d2 fMul (dV 3) (dV 5)) a0)))))
theorem okelement_difference {f : Addr} {fd : FuncData} {k : Nat} (F : Fun K "element_difference" "element_difference" selement_difference f fd) (M : Names mg) {ctimes : List D → Option D} {cminus : List D → Option D} {clowest : List D → Option D} (Gtimes : Cal P w K mg base k "times" ["vector", "factor"] (SpD C ctimes)) (Gminus : Cal P w K mg base k "minus" ["one", "other"] (SpD C cminus)) (Glowest : Cal P w K mg base k "lowest" ["vector", "scale"] (SpD C clowest)) : FnOk P w K mg base CX0 (k + 1) f fd ["one", "other"] (SpD C (runD 2 6 (denelement_difference ctimes cminus clowest))) :=
  fn_den F scelement_difference fun cdv A outer s H E hr => (ds_cons (ds_asg (dn_tup (da_cons (dn_var (i := 0)) (da_cons (dn_var (i := 1)) da_nil))) (dg_tup rfl (dg_cons (dg_tup rfl (dg_cons (dg_name (i := 2) scelement_difference.nd) (dg_cons (dg_name (i := 3) scelement_difference.nd) dg_nil))) (dg_cons (dg_tup rfl (dg_cons (dg_name (i := 4) scelement_difference.nd) (dg_cons (dg_name (i := 5) scelement_difference.nd) dg_nil))) dg_nil))))
  (ds_one (ds_ret (dn_call Glowest.ok hr (by rfl) Glowest.m Glowest.kp Glowest.b pass0 (da_cons (dn_call Gminus.ok hr (by rfl) Gminus.m Gminus.kp Gminus.b pass0 (da_cons (dn_call Gtimes.ok hr (by rfl) Gtimes.m Gtimes.kp Gtimes.b pass0 (da_cons (dn_var (i := 2)) (da_cons (dn_var (i := 5)) da_nil))) (da_cons (dn_call Gtimes.ok hr (by rfl) Gtimes.m Gtimes.kp Gtimes.b pass0 (da_cons (dn_var (i := 4)) (da_cons (dn_var (i := 3)) da_nil))) da_nil))) (da_cons (dn_mul (dn_var (i := 3)) (dn_var (i := 5))) da_nil))))))
abbrev selement_product : Stmt := topS 20
abbrev Nelement_product : List Str := ["tower", "one", "other"]
theorem scelement_product : FnScope Nelement_product ["tower", "one", "other"] (defScope selement_product) := ⟨rfl, rfl, rfl, by decide +kernel, rfl, by decide +kernel, by decide +kernel⟩
def denelement_product (cmultiplied : List D → Option D) (clowest : List D → Option D) : List Sl → Option Out :=
  (sRet (dCall clowest (ac (dCall cmultiplied (ac (dV 0) (ac (d2 fIx (dV 1) (dK (.int 0))) (ac (d2 fIx (dV 2) (dK (.int 0))) a0)))) (ac (d2 fMul (d2 fIx (dV 1) (dK (.int 1))) (d2 fIx (dV 2) (dK (.int 1)))) a0))))
theorem okelement_product {f : Addr} {fd : FuncData} {k : Nat} (F : Fun K "element_product" "element_product" selement_product f fd) (M : Names mg) {cmultiplied : List D → Option D} {clowest : List D → Option D} (Gmultiplied : Cal P w K mg base k "multiplied" ["tower", "one", "other"] (SpD C cmultiplied)) (Glowest : Cal P w K mg base k "lowest" ["vector", "scale"] (SpD C clowest)) : FnOk P w K mg base CX0 (k + 1) f fd ["tower", "one", "other"] (SpD C (runD 3 3 (denelement_product cmultiplied clowest))) :=
  fn_den F scelement_product fun cdv A outer s H E hr => (ds_one (ds_ret (dn_call Glowest.ok hr (by rfl) Glowest.m Glowest.kp Glowest.b pass0 (da_cons (dn_call Gmultiplied.ok hr (by rfl) Gmultiplied.m Gmultiplied.kp Gmultiplied.b pass0 (da_cons (dn_var (i := 0)) (da_cons (dn_sub_ix (dn_var (i := 1)) dn_int (fun _ _ => rfl)) (da_cons (dn_sub_ix (dn_var (i := 2)) dn_int (fun _ _ => rfl)) da_nil)))) (da_cons (dn_mul (dn_sub_ix (dn_var (i := 1)) dn_int (fun _ _ => rfl)) (dn_sub_ix (dn_var (i := 2)) dn_int (fun _ _ => rfl))) da_nil)))))
abbrev selement_quotient : Stmt := topS 21
abbrev Nelement_quotient : List Str := ["tower", "one", "other", "turned", "scale"]
theorem scelement_quotient : FnScope Nelement_quotient ["tower", "one", "other"] (defScope selement_quotient) := ⟨rfl, rfl, rfl, by decide +kernel, rfl, by decide +kernel, by decide +kernel⟩
def denelement_quotient (cinverse : List D → Option D) (cmultiplied : List D → Option D) (ctimes : List D → Option D) (clowest : List D → Option D) : List Sl → Option Out :=
  (sSeq (sAsg (dCall cinverse (ac (dV 0) (ac (d2 fIx (dV 2) (dK (.int 0))) a0))) (gTu 2 (gcons (gN 3) (gcons (gN 4) gnil))))
  (sRet (dCall clowest (ac (dCall ctimes (ac (dCall cmultiplied (ac (dV 0) (ac (d2 fIx (dV 1) (dK (.int 0))) (ac (dV 3) a0)))) (ac (d2 fIx (dV 2) (dK (.int 1))) a0))) (ac (d2 fMul (d2 fIx (dV 1) (dK (.int 1))) (dV 4)) a0)))))
theorem okelement_quotient {f : Addr} {fd : FuncData} {k : Nat} (F : Fun K "element_quotient" "element_quotient" selement_quotient f fd) (M : Names mg) {cinverse : List D → Option D} {cmultiplied : List D → Option D} {ctimes : List D → Option D} {clowest : List D → Option D} (Ginverse : Cal P w K mg base k "inverse" ["tower", "vector"] (SpD C cinverse)) (Gmultiplied : Cal P w K mg base k "multiplied" ["tower", "one", "other"] (SpD C cmultiplied)) (Gtimes : Cal P w K mg base k "times" ["vector", "factor"] (SpD C ctimes)) (Glowest : Cal P w K mg base k "lowest" ["vector", "scale"] (SpD C clowest)) : FnOk P w K mg base CX0 (k + 1) f fd ["tower", "one", "other"] (SpD C (runD 3 5 (denelement_quotient cinverse cmultiplied ctimes clowest))) :=
  fn_den F scelement_quotient fun cdv A outer s H E hr => (ds_cons (ds_asg (dn_call Ginverse.ok hr (by rfl) Ginverse.m Ginverse.kp Ginverse.b pass0 (da_cons (dn_var (i := 0)) (da_cons (dn_sub_ix (dn_var (i := 2)) dn_int (fun _ _ => rfl)) da_nil))) (dg_tup rfl (dg_cons (dg_name (i := 3) scelement_quotient.nd) (dg_cons (dg_name (i := 4) scelement_quotient.nd) dg_nil))))
  (ds_one (ds_ret (dn_call Glowest.ok hr (by rfl) Glowest.m Glowest.kp Glowest.b pass0 (da_cons (dn_call Gtimes.ok hr (by rfl) Gtimes.m Gtimes.kp Gtimes.b pass0 (da_cons (dn_call Gmultiplied.ok hr (by rfl) Gmultiplied.m Gmultiplied.kp Gmultiplied.b pass0 (da_cons (dn_var (i := 0)) (da_cons (dn_sub_ix (dn_var (i := 1)) dn_int (fun _ _ => rfl)) (da_cons (dn_var (i := 3)) da_nil)))) (da_cons (dn_sub_ix (dn_var (i := 2)) dn_int (fun _ _ => rfl)) da_nil))) (da_cons (dn_mul (dn_sub_ix (dn_var (i := 1)) dn_int (fun _ _ => rfl)) (dn_var (i := 4))) da_nil))))))
abbrev sfrom_halves : Stmt := topS 22
abbrev Nfrom_halves : List Str := ["low", "high", "first", "scale", "second", "divider"]
theorem scfrom_halves : FnScope Nfrom_halves ["low", "high"] (defScope sfrom_halves) := ⟨rfl, rfl, rfl, by decide +kernel, rfl, by decide +kernel, by decide +kernel⟩
def denfrom_halves (ctimes : List D → Option D) (clowest : List D → Option D) : List Sl → Option Out :=
  (sSeq (sAsg (dTup (ac (dV 0) (ac (dV 1) a0))) (gTu 2 (gcons (gTu 2 (gcons (gN 2) (gcons (gN 3) gnil))) (gcons (gTu 2 (gcons (gN 4) (gcons (gN 5) gnil))) gnil))))
  (sRet (dCall clowest (ac (d2 fAdd (dCall ctimes (ac (dV 2) (ac (dV 5) a0))) (dCall ctimes (ac (dV 4) (ac (dV 3) a0)))) (ac (d2 fMul (dV 3) (dV 5)) a0)))))
theorem okfrom_halves {f : Addr} {fd : FuncData} {k : Nat} (F : Fun K "from_halves" "from_halves" sfrom_halves f fd) (M : Names mg) {ctimes : List D → Option D} {clowest : List D → Option D} (Gtimes : Cal P w K mg base k "times" ["vector", "factor"] (SpD C ctimes)) (Glowest : Cal P w K mg base k "lowest" ["vector", "scale"] (SpD C clowest)) : FnOk P w K mg base CX0 (k + 1) f fd ["low", "high"] (SpD C (runD 2 6 (denfrom_halves ctimes clowest))) :=
  fn_den F scfrom_halves fun cdv A outer s H E hr => (ds_cons (ds_asg (dn_tup (da_cons (dn_var (i := 0)) (da_cons (dn_var (i := 1)) da_nil))) (dg_tup rfl (dg_cons (dg_tup rfl (dg_cons (dg_name (i := 2) scfrom_halves.nd) (dg_cons (dg_name (i := 3) scfrom_halves.nd) dg_nil))) (dg_cons (dg_tup rfl (dg_cons (dg_name (i := 4) scfrom_halves.nd) (dg_cons (dg_name (i := 5) scfrom_halves.nd) dg_nil))) dg_nil))))
  (ds_one (ds_ret (dn_call Glowest.ok hr (by rfl) Glowest.m Glowest.kp Glowest.b pass0 (da_cons (dn_add (dn_call Gtimes.ok hr (by rfl) Gtimes.m Gtimes.kp Gtimes.b pass0 (da_cons (dn_var (i := 2)) (da_cons (dn_var (i := 5)) da_nil))) (dn_call Gtimes.ok hr (by rfl) Gtimes.m Gtimes.kp Gtimes.b pass0 (da_cons (dn_var (i := 4)) (da_cons (dn_var (i := 3)) da_nil)))) (da_cons (dn_mul (dn_var (i := 3)) (dn_var (i := 5))) da_nil))))))
abbrev strimmed : Stmt := topS 23
abbrev Ntrimmed : List Str := ["tower", "element", "vector", "scale", "needed", "k", "left"]
theorem sctrimmed : FnScope Ntrimmed ["tower", "element"] (defScope strimmed) := ⟨rfl, rfl, rfl, by decide +kernel, rfl, by decide +kernel, by decide +kernel⟩
def dentrimmed (c_shares : List D → Option D) (c_chosen : List D → Option D) : List Sl → Option Out :=
  (sSeq (sAsg (dV 1) (gTu 2 (gcons (gN 2) (gcons (gN 3) gnil))))
  (sSeq (sSet 4 (dCall c_shares (ac (dV 2) a0)))
  (sSeq (sFor (iRevR1 (dCall fLen (ac (dV 0) a0))) (gN 5)
    (sIf (dTru (d2 fAnd (d2 fShr (dV 4) (dV 5)) (dK (.int 1))))
      (sSet 4 (d2 fOr (dV 4) (dCall c_shares (ac (d2 fIx (dV 0) (dV 5)) a0))))
      sNext))
  (sSeq (sIf (dAsB (d2 fEq (d2 fAdd (dV 4) (dK (.int 1))) (dCall fLen (ac (dV 2) a0))))
    (sRet (dTup (ac (dV 0) (ac (dV 1) a0))))
    sNext)
  (sSeq (sSet 6 (dCall fTuple (ac (dLc (iRng r1D (ac (dCall fLen (ac (dV 0) a0)) a0)) (gN 5) (dTru (d2 fAnd (d2 fShr (dV 4) (dV 5)) (dK (.int 1)))) (dCall c_chosen (ac (d2 fIx (dV 0) (dV 5)) (ac (dV 4) a0))) [5]) a0)))
  (sRet (dTup (ac (dV 6) (ac (dTup (ac (dCall c_chosen (ac (dV 2) (ac (dV 4) a0))) (ac (dV 3) a0))) a0)))))))))
theorem oktrimmed {f : Addr} {fd : FuncData} {k : Nat} (F : Fun K "trimmed" "trimmed" strimmed f fd) (M : Names mg) {c_shares : List D → Option D} {c_chosen : List D → Option D} (G_shares : Cal P w K mg base k "_shares" ["vector"] (SpD C c_shares)) (G_chosen : Cal P w K mg base k "_chosen" ["vector", "needed"] (SpD C c_chosen)) : FnOk P w K mg base CX0 (k + 1) f fd ["tower", "element"] (SpD C (runD 2 7 (dentrimmed c_shares c_chosen))) :=
  fn_den F sctrimmed fun cdv A outer s H E hr => (ds_cons (ds_asg (dn_var (i := 1)) (dg_tup rfl (dg_cons (dg_name (i := 2) sctrimmed.nd) (dg_cons (dg_name (i := 3) sctrimmed.nd) dg_nil))))
  (ds_cons (ds_set (i := 4) sctrimmed.nd (dn_call G_shares.ok hr (by rfl) G_shares.m G_shares.kp G_shares.b pass0 (da_cons (dn_var (i := 2)) da_nil)))
  (ds_cons (ds_for PassesOwn.never rfl (di_revR1 (by rfl) M.reversed (by rfl) M.range (dn_callB is_len call_len_seq (by rfl) M.len PySem.boot_len (da_cons (dn_var (i := 0)) da_nil))) (dg_name (i := 5) sctrimmed.nd)
    (ds_one (ds_if (dt_truth (dn_and (dn_shr (dn_var (i := 4)) (dn_var (i := 5))) dn_int))
      (ds_one (ds_set (i := 4) sctrimmed.nd (dn_or (dn_var (i := 4)) (dn_call G_shares.ok hr (by rfl) G_shares.m G_shares.kp G_shares.b pass0 (da_cons (dn_sub_ix (dn_var (i := 0)) (dn_var (i := 5)) (fun _ _ => rfl)) da_nil)))))
      ds_nil)))
  (ds_cons (ds_if (dt_eq hr.units (dn_add (dn_var (i := 4)) dn_int) (dn_callB is_len call_len_seq (by rfl) M.len PySem.boot_len (da_cons (dn_var (i := 2)) da_nil)))
    (ds_one (ds_ret (dn_tup (da_cons (dn_var (i := 0)) (da_cons (dn_var (i := 1)) da_nil)))))
    ds_nil)
  (ds_cons (ds_set (i := 6) sctrimmed.nd (dn_callTy (is_tuple (K := K)) call_tuple_of (by rfl) M.tuple (by decide +kernel) (da_cons (dn_lc (own := [("k", 5)]) (by rfl) sctrimmed.nd (di_range1 (by rfl) M.range (da_cons (dn_callB is_len call_len_seq (by rfl) M.len PySem.boot_len (da_cons (dn_var (i := 0)) da_nil)) da_nil)) (blkOk_by (own := [("k", 5)]) (N := Ntrimmed) (sc := defScope strimmed) (by decide +kernel)) (fun _ _ _ _ _ => (dg_name (i := 5) sctrimmed.nd)) (fun _ _ _ _ _ => (dts_one (dt_truth (dn_and (dn_shr (dn_var (i := 4)) (dn_var (i := 5))) dn_int)))) (fun _ _ _ _ _ => (dn_call G_chosen.ok hr (by rfl) G_chosen.m G_chosen.kp G_chosen.b pass0 (da_cons (dn_sub_ix (dn_var (i := 0)) (dn_var (i := 5)) (fun _ _ => rfl)) (da_cons (dn_var (i := 4)) da_nil))))) da_nil)))
  (ds_one (ds_ret (dn_tup (da_cons (dn_var (i := 6)) (da_cons (dn_tup (da_cons (dn_call G_chosen.ok hr (by rfl) G_chosen.m G_chosen.kp G_chosen.b pass0 (da_cons (dn_var (i := 2)) (da_cons (dn_var (i := 4)) da_nil))) (da_cons (dn_var (i := 3)) da_nil))) da_nil))))))))))
abbrev s_shares : Stmt := topS 24
abbrev N_shares : List Str := ["vector", "bits", "j", "n"]
theorem sc_shares : FnScope N_shares ["vector"] (defScope s_shares) := ⟨rfl, rfl, rfl, by decide +kernel, rfl, by decide +kernel, by decide +kernel⟩
def den_shares : List Sl → Option Out :=
  (sSeq (sSet 1 (dK (.int 0)))
  (sSeq (sFor (iEnumD (ac (dV 0) a0)) (gTu 2 (gcons (gN 2) (gcons (gN 3) gnil)))
    (sIf (dAsB (d2 fNe (dV 3) (dK (.int 0))))
      (sSet 1 (d2 fOr (dV 1) (dV 2)))
      sNext))
  (sRet (dV 1))))
theorem ok_shares {f : Addr} {fd : FuncData} {k : Nat} (F : Fun K "_shares" "_shares" s_shares f fd) (M : Names mg) : FnOk P w K mg base CX0 (k + 1) f fd ["vector"] (SpD C (runD 1 4 (den_shares))) :=
  fn_den F sc_shares fun cdv A outer s H E hr => (ds_cons (ds_set (i := 1) sc_shares.nd dn_int)
  (ds_cons (ds_for PassesOwn.never rfl (di_enum (by rfl) M.enumerate (da_cons (dn_var (i := 0)) da_nil)) (dg_tup rfl (dg_cons (dg_name (i := 2) sc_shares.nd) (dg_cons (dg_name (i := 3) sc_shares.nd) dg_nil)))
    (ds_one (ds_if (dt_ne hr.units (dn_var (i := 3)) dn_int)
      (ds_one (ds_set (i := 1) sc_shares.nd (dn_or (dn_var (i := 1)) (dn_var (i := 2)))))
      ds_nil)))
  (ds_one (ds_ret (dn_var (i := 1))))))
abbrev s_chosen : Stmt := topS 25
abbrev N_chosen : List Str := ["vector", "needed", "j", "n"]
theorem sc_chosen : FnScope N_chosen ["vector", "needed"] (defScope s_chosen) := ⟨rfl, rfl, rfl, by decide +kernel, rfl, by decide +kernel, by decide +kernel⟩
def den_chosen : List Sl → Option Out :=
  (sRet (dCall fTuple (ac (dLc (iEnumD (ac (dV 0) a0)) (gTu 2 (gcons (gN 2) (gcons (gN 3) gnil))) (dAsB (d2 fEq (d2 fOr (dV 2) (dV 1)) (dV 1))) (dV 3) [2, 3]) a0)))
theorem ok_chosen {f : Addr} {fd : FuncData} {k : Nat} (F : Fun K "_chosen" "_chosen" s_chosen f fd) (M : Names mg) : FnOk P w K mg base CX0 (k + 1) f fd ["vector", "needed"] (SpD C (runD 2 4 (den_chosen))) :=
  fn_den F sc_chosen fun cdv A outer s H E hr => (ds_one (ds_ret (dn_callTy (is_tuple (K := K)) call_tuple_of (by rfl) M.tuple (by decide +kernel) (da_cons (dn_lc (own := [("j", 2), ("n", 3)]) (by rfl) sc_chosen.nd (di_enum (by rfl) M.enumerate (da_cons (dn_var (i := 0)) da_nil)) (blkOk_by (own := [("j", 2), ("n", 3)]) (N := N_chosen) (sc := defScope s_chosen) (by decide +kernel)) (fun _ _ _ _ _ => (dg_tup rfl (dg_cons (dg_name (i := 2) sc_chosen.nd) (dg_cons (dg_name (i := 3) sc_chosen.nd) dg_nil)))) (fun _ _ _ _ _ => (dts_one (dt_eq hr.units (dn_or (dn_var (i := 2)) (dn_var (i := 1))) (dn_var (i := 1))))) (fun _ _ _ _ _ => (dn_var (i := 3)))) da_nil))))
end
end K31

set_option maxHeartbeats 4000000
namespace K31
open PySem PySem.Spec PyProof.Rows L2 KG DN
section
variable {P : Program} {w : World} {K : PySem.W.Frag} {mg : Str → Option Value} {base : Heap} {C : Addr}
abbrev sbound : Stmt := topS 28
abbrev Nbound : List Str := ["vector", "basis", "low", "high", "n", "least", "most"]
theorem scbound : FnScope Nbound ["vector", "basis"] (defScope sbound) := ⟨rfl, rfl, rfl, by decide +kernel, rfl, by decide +kernel, by decide +kernel⟩
def denbound : List Sl → Option Out :=
  (sSeq (sAsg2 (dK (.int 0)) (gN 2) (gN 3))
  (sSeq (sFor (iZipD (ac (dV 0) (ac (dV 1) a0))) (gTu 2 (gcons (gN 4) (gcons (gTu 2 (gcons (gN 5) (gcons (gN 6) gnil))) gnil)))
    (sIf (dAsB (d2 (fB20 fun i j => decide (j < i)) (dV 4) (dK (.int 0))))
      (sSeq (sSet 2 (d2 fAdd (dV 2) (d2 fMul (dV 4) (dV 5))))
      (sSet 3 (d2 fAdd (dV 3) (d2 fMul (dV 4) (dV 6)))))
      (sIf (dAsB (d2 fLtA (dV 4) (dK (.int 0))))
        (sSeq (sSet 2 (d2 fAdd (dV 2) (d2 fMul (dV 4) (dV 6))))
        (sSet 3 (d2 fAdd (dV 3) (d2 fMul (dV 4) (dV 5)))))
        sNext)))
  (sRet (dTup (ac (dV 2) (ac (dV 3) a0))))))
theorem okbound {f : Addr} {fd : FuncData} {k : Nat} (F : Fun K "bound" "bound" sbound f fd) (M : Names mg) : FnOk P w K mg base CX0 (k + 1) f fd ["vector", "basis"] (SpD C (runD 2 7 (denbound))) :=
  fn_den F scbound fun cdv A outer s H E hr => (ds_cons (ds_asg2 dn_int (dg_name (i := 2) scbound.nd) (dg_name (i := 3) scbound.nd))
  (ds_cons (ds_for PassesOwn.never rfl (di_zip (by rfl) M.zip (da_cons (dn_var (i := 0)) (da_cons (dn_var (i := 1)) da_nil))) (dg_tup rfl (dg_cons (dg_name (i := 4) scbound.nd) (dg_cons (dg_tup rfl (dg_cons (dg_name (i := 5) scbound.nd) (dg_cons (dg_name (i := 6) scbound.nd) dg_nil))) dg_nil)))
    (ds_one (ds_if (dt_gt (dn_var (i := 4)) dn_int)
      (ds_cons (ds_set (i := 2) scbound.nd (dn_add (dn_var (i := 2)) (dn_mul (dn_var (i := 4)) (dn_var (i := 5)))))
      (ds_one (ds_set (i := 3) scbound.nd (dn_add (dn_var (i := 3)) (dn_mul (dn_var (i := 4)) (dn_var (i := 6)))))))
      (ds_one (ds_if (dt_ltA hr.units0 (dn_var (i := 4)) dn_int)
        (ds_cons (ds_set (i := 2) scbound.nd (dn_add (dn_var (i := 2)) (dn_mul (dn_var (i := 4)) (dn_var (i := 6)))))
        (ds_one (ds_set (i := 3) scbound.nd (dn_add (dn_var (i := 3)) (dn_mul (dn_var (i := 4)) (dn_var (i := 5)))))))
        ds_nil)))))
  (ds_one (ds_ret (dn_tup (da_cons (dn_var (i := 2)) (da_cons (dn_var (i := 3)) da_nil)))))))
abbrev s_unit : Stmt := topS 29
abbrev N_unit : List Str := ["bits"]
theorem sc_unit : FnScope N_unit ["bits"] (defScope s_unit) := ⟨rfl, rfl, rfl, by decide +kernel, rfl, by decide +kernel, by decide +kernel⟩
def den_unit : List Sl → Option Out :=
  (sRet (dLst (ac (dTup (ac (d2 fShl (dK (.int 1)) (dV 0)) (ac (d2 fShl (dK (.int 1)) (dV 0)) a0))) a0)))
theorem ok_unit {f : Addr} {fd : FuncData} {k : Nat} (F : Fun K "_unit" "_unit" s_unit f fd) (M : Names mg) : FnOk P w K mg base CX0 (k + 1) f fd ["bits"] (SpD C (runD 1 1 (den_unit))) :=
  fn_den F sc_unit fun cdv A outer s H E hr => (ds_one (ds_ret (dn_lst (da_cons (dn_tup (da_cons (dn_shl dn_int (dn_var (i := 0))) (da_cons (dn_shl dn_int (dn_var (i := 0))) da_nil))) da_nil))))
abbrev s_root : Stmt := topS 30
abbrev N_root : List Str := ["square", "bits", "low", "high"]
theorem sc_root : FnScope N_root ["square", "bits"] (defScope s_root) := ⟨rfl, rfl, rfl, by decide +kernel, rfl, by decide +kernel, by decide +kernel⟩
def den_root : List Sl → Option Out :=
  (sSeq (sAsg (dV 0) (gTu 2 (gcons (gN 2) (gcons (gN 3) gnil))))
  (sRet (dTup (ac (dCall fIsqrt (ac (d2 fShl (dCall fMax (ac (dV 2) (ac (dK (.int 0)) a0))) (dV 1)) a0)) (ac (d2 fAdd (dCall fIsqrt (ac (d2 fShl (dV 3) (dV 1)) a0)) (dK (.int 1))) a0)))))
theorem ok_root {f : Addr} {fd : FuncData} {k : Nat} (F : Fun K "_root" "_root" s_root f fd) (M : Names mg) : FnOk P w K mg base CX0 (k + 1) f fd ["square", "bits"] (SpD C (runD 2 4 (den_root))) :=
  fn_den F sc_root fun cdv A outer s H E hr => (ds_cons (ds_asg (dn_var (i := 0)) (dg_tup rfl (dg_cons (dg_name (i := 2) sc_root.nd) (dg_cons (dg_name (i := 3) sc_root.nd) dg_nil))))
  (ds_one (ds_ret (dn_tup (da_cons (dn_callBfun is_isqrt cr_isqrt (by rfl) M.isqrt (da_cons (dn_shl (dn_callB (is_max (K := K)) ((call_max2 rfl).or (cr_max rfl)) (by rfl) M.max (by decide +kernel) (da_cons (dn_var (i := 2)) (da_cons dn_int da_nil))) (dn_var (i := 1))) da_nil)) (da_cons (dn_add (dn_callBfun is_isqrt cr_isqrt (by rfl) M.isqrt (da_cons (dn_shl (dn_var (i := 3)) (dn_var (i := 1))) da_nil)) dn_int) da_nil))))))
abbrev s_scaled : Stmt := topS 31
abbrev N_scaled : List Str := ["one", "other", "bits", "products", "m", "n"]
theorem sc_scaled : FnScope N_scaled ["one", "other", "bits"] (defScope s_scaled) := ⟨rfl, rfl, rfl, by decide +kernel, rfl, by decide +kernel, by decide +kernel⟩
def den_scaled : List Sl → Option Out :=
  (sSeq (sSet 3 (dLc2 (iSeq (dV 0)) (gN 4) (iSeq (dV 1)) (gN 5) (d2 fMul (dV 4) (dV 5)) [4, 5] [5]))
  (sRet (dTup (ac (d2 fShr (dCall fMin (ac (dV 3) a0)) (dV 2)) (ac (d1 (fI1 fun i => -i) (d2 fShr (d1 (fI1 fun i => -i) (dCall fMax (ac (dV 3) a0))) (dV 2))) a0)))))
theorem ok_scaled {f : Addr} {fd : FuncData} {k : Nat} (F : Fun K "_scaled" "_scaled" s_scaled f fd) (M : Names mg) : FnOk P w K mg base CX0 (k + 1) f fd ["one", "other", "bits"] (SpD C (runD 3 6 (den_scaled))) :=
  fn_den F sc_scaled fun cdv A outer s H E hr => (ds_cons (ds_setLc2 (own := [("m", 4), ("n", 5)]) (vs1 := [5]) (i := 3) (by rfl) sc_scaled.nd rfl rfl (sw_true rfl rfl rfl (by decide +kernel)) (di_seq (dn_var (i := 0))) (blkOk_by (own := [("m", 4), ("n", 5)]) (N := N_scaled) (sc := defScope s_scaled) (by decide +kernel)) (fun _ _ _ _ _ => (dg_name (i := 4) sc_scaled.nd)) (fun _ _ _ _ _ => (di_seq (dn_var (i := 1)))) (fun _ _ _ _ _ => (dg_name (i := 5) sc_scaled.nd)) (fun _ _ _ _ _ => (dn_mul (dn_var (i := 4)) (dn_var (i := 5)))))
  (ds_one (ds_ret (dn_tup (da_cons (dn_shr (dn_callB (is_min (K := K)) ((call_min2 rfl).or (cr_min rfl)) (by rfl) M.min (by decide +kernel) (da_cons (dn_var (i := 3)) da_nil)) (dn_var (i := 2))) (da_cons (dn_neg (dn_shr (dn_neg (dn_callB (is_max (K := K)) ((call_max2 rfl).or (cr_max rfl)) (by rfl) M.max (by decide +kernel) (da_cons (dn_var (i := 3)) da_nil))) (dn_var (i := 2)))) da_nil))))))
abbrev sbasis_of : Stmt := topS 32
abbrev Nbasis_of : List Str := ["tower", "bits", "found", "generator", "root", "part"]
theorem scbasis_of : FnScope Nbasis_of ["tower", "bits"] (defScope sbasis_of) := ⟨rfl, rfl, rfl, by decide +kernel, rfl, by decide +kernel, by decide +kernel⟩
def denbasis_of (c_unit : List D → Option D) (cbound : List D → Option D) (c_root : List D → Option D) (c_scaled : List D → Option D) : List Sl → Option Out :=
  (sSeq (sSet 2 (dCall c_unit (ac (dV 1) a0)))
  (sSeq (sFor (iSeq (dV 0)) (gN 3)
    (sSeq (sSet 4 (dCall c_root (ac (dCall cbound (ac (dV 3) (ac (dV 2) a0))) (ac (dV 1) a0))))
    (sSet 2 (d2 fAdd (dV 2) (dLc (iSeq (dV 2)) (gN 5) bYes (dCall c_scaled (ac (dV 5) (ac (dV 4) (ac (dV 1) a0)))) [5])))))
  (sRet (dV 2))))
theorem okbasis_of {f : Addr} {fd : FuncData} {k : Nat} (F : Fun K "basis_of" "basis_of" sbasis_of f fd) (M : Names mg) {c_unit : List D → Option D} {cbound : List D → Option D} {c_root : List D → Option D} {c_scaled : List D → Option D} (G_unit : Cal P w K mg base k "_unit" ["bits"] (SpD C c_unit)) (Gbound : Cal P w K mg base k "bound" ["vector", "basis"] (SpD C cbound)) (G_root : Cal P w K mg base k "_root" ["square", "bits"] (SpD C c_root)) (G_scaled : Cal P w K mg base k "_scaled" ["one", "other", "bits"] (SpD C c_scaled)) : FnOk P w K mg base CX0 (k + 1) f fd ["tower", "bits"] (SpD C (runD 2 6 (denbasis_of c_unit cbound c_root c_scaled))) :=
  fn_den F scbasis_of fun cdv A outer s H E hr => (ds_cons (ds_set (i := 2) scbasis_of.nd (dn_call G_unit.ok hr (by rfl) G_unit.m G_unit.kp G_unit.b pass0 (da_cons (dn_var (i := 1)) da_nil)))
  (ds_cons (ds_for PassesOwn.never rfl (di_seq (dn_var (i := 0))) (dg_name (i := 3) scbasis_of.nd)
    (ds_cons (ds_set (i := 4) scbasis_of.nd (dn_call G_root.ok hr (by rfl) G_root.m G_root.kp G_root.b pass0 (da_cons (dn_call Gbound.ok hr (by rfl) Gbound.m Gbound.kp Gbound.b pass0 (da_cons (dn_var (i := 3)) (da_cons (dn_var (i := 2)) da_nil))) (da_cons (dn_var (i := 1)) da_nil))))
    (ds_one (ds_set (i := 2) scbasis_of.nd (dn_add (dn_var (i := 2)) (dn_lc (own := [("part", 5)]) (by rfl) scbasis_of.nd (di_seq (dn_var (i := 2))) (blkOk_by (own := [("part", 5)]) (N := Nbasis_of) (sc := defScope sbasis_of) (by decide +kernel)) (fun _ _ _ _ _ => (dg_name (i := 5) scbasis_of.nd)) (fun _ _ _ _ _ => dts_nil) (fun _ _ _ _ _ => (dn_call G_scaled.ok hr (by rfl) G_scaled.m G_scaled.kp G_scaled.b pass0 (da_cons (dn_var (i := 5)) (da_cons (dn_var (i := 4)) (da_cons (dn_var (i := 1)) da_nil)))))))))))
  (ds_one (ds_ret (dn_var (i := 2))))))
abbrev ssign_of : Stmt := topS 33
abbrev Nsign_of : List Str := ["tower", "vector", "bits", "low", "high"]
theorem scsign_of : FnScope Nsign_of ["tower", "vector"] (defScope ssign_of) := ⟨rfl, rfl, rfl, by decide +kernel, rfl, by decide +kernel, by decide +kernel⟩
def densign_of (cbasis_of : List D → Option D) (cbound : List D → Option D) : List Sl → Option Out :=
  (sSeq (sIf (bNot (dTru (dCall fAny (ac (dV 1) a0))))
    (sRet (dK (.int 0)))
    sNext)
  (sSeq (sSet 2 (dK (.int (64))))
  (whileD (dTru (dK (.bl true)))
    (sSeq (sAsg (dCall cbound (ac (dV 1) (ac (dCall cbasis_of (ac (dV 0) (ac (dV 2) a0))) a0))) (gTu 2 (gcons (gN 3) (gcons (gN 4) gnil))))
    (sSeq (sIf (dAsB (d2 (fB20 fun i j => decide (j < i)) (dV 3) (dK (.int 0))))
      (sRet (dK (.int 1)))
      sNext)
    (sSeq (sIf (dAsB (d2 fLtA (dV 4) (dK (.int 0))))
      (sRet (d1 (fI1 fun i => -i) (dK (.int 1))))
      sNext)
    (sSet 2 (d2 fMul (dK (.int 2)) (dV 2)))))) 8)))
theorem oksign_of {f : Addr} {fd : FuncData} {k : Nat} (F : Fun K "sign_of" "sign_of" ssign_of f fd) (M : Names mg) {cbasis_of : List D → Option D} {cbound : List D → Option D} (Gbasis_of : Cal P w K mg base k "basis_of" ["tower", "bits"] (SpD C cbasis_of)) (Gbound : Cal P w K mg base k "bound" ["vector", "basis"] (SpD C cbound)) : FnOk P w K mg base CX0 (k + 1) f fd ["tower", "vector"] (SpD C (runD 2 5 (densign_of cbasis_of cbound))) :=
  fn_den F scsign_of fun cdv A outer s H E hr => (ds_cons (ds_if (dt_not (dt_truth (dn_callB (is_any (K := K)) (cr_anyA rfl) (by rfl) M.any (by decide +kernel) (da_cons (dn_var (i := 1)) da_nil))))
    (ds_one (ds_ret dn_int))
    ds_nil)
  (ds_cons (ds_set (i := 2) scsign_of.nd (dn_globI (by rfl) M.FIRST_BITS))
  (ds_one (ds_while 8 PassesOwn.never (dt_truth dn_bl)
    (ds_cons (ds_asg (dn_call Gbound.ok hr (by rfl) Gbound.m Gbound.kp Gbound.b pass0 (da_cons (dn_var (i := 1)) (da_cons (dn_call Gbasis_of.ok hr (by rfl) Gbasis_of.m Gbasis_of.kp Gbasis_of.b pass0 (da_cons (dn_var (i := 0)) (da_cons (dn_var (i := 2)) da_nil))) da_nil))) (dg_tup rfl (dg_cons (dg_name (i := 3) scsign_of.nd) (dg_cons (dg_name (i := 4) scsign_of.nd) dg_nil))))
    (ds_cons (ds_if (dt_gt (dn_var (i := 3)) dn_int)
      (ds_one (ds_ret dn_int))
      ds_nil)
    (ds_cons (ds_if (dt_ltA hr.units0 (dn_var (i := 4)) dn_int)
      (ds_one (ds_ret (dn_neg dn_int)))
      ds_nil)
    (ds_one (ds_set (i := 2) scsign_of.nd (dn_mul dn_int (dn_var (i := 2))))))))))))
abbrev spositive : Stmt := topS 34
abbrev Npositive : List Str := ["tower", "element", "vector", "scale"]
theorem scpositive : FnScope Npositive ["tower", "element"] (defScope spositive) := ⟨rfl, rfl, rfl, by decide +kernel, rfl, by decide +kernel, by decide +kernel⟩
def denpositive (csign_of : List D → Option D) (ctimes : List D → Option D) : List Sl → Option Out :=
  (sSeq (sAsg (dV 1) (gTu 2 (gcons (gN 2) (gcons (gN 3) gnil))))
  (sSeq (sIf (dAsB (d2 fLtA (dCall csign_of (ac (dV 0) (ac (dV 2) a0))) (dK (.int 0))))
    (sRet (dTup (ac (dCall ctimes (ac (dV 2) (ac (d1 (fI1 fun i => -i) (dK (.int 1))) a0))) (ac (dV 3) a0))))
    sNext)
  (sRet (dV 1))))
theorem okpositive {f : Addr} {fd : FuncData} {k : Nat} (F : Fun K "positive" "positive" spositive f fd) (M : Names mg) {csign_of : List D → Option D} {ctimes : List D → Option D} (Gsign_of : Cal P w K mg base k "sign_of" ["tower", "vector"] (SpD C csign_of)) (Gtimes : Cal P w K mg base k "times" ["vector", "factor"] (SpD C ctimes)) : FnOk P w K mg base CX0 (k + 1) f fd ["tower", "element"] (SpD C (runD 2 4 (denpositive csign_of ctimes))) :=
  fn_den F scpositive fun cdv A outer s H E hr => (ds_cons (ds_asg (dn_var (i := 1)) (dg_tup rfl (dg_cons (dg_name (i := 2) scpositive.nd) (dg_cons (dg_name (i := 3) scpositive.nd) dg_nil))))
  (ds_cons (ds_if (dt_ltA hr.units0 (dn_call Gsign_of.ok hr (by rfl) Gsign_of.m Gsign_of.kp Gsign_of.b pass0 (da_cons (dn_var (i := 0)) (da_cons (dn_var (i := 2)) da_nil))) dn_int)
    (ds_one (ds_ret (dn_tup (da_cons (dn_call Gtimes.ok hr (by rfl) Gtimes.m Gtimes.kp Gtimes.b pass0 (da_cons (dn_var (i := 2)) (da_cons (dn_neg dn_int) da_nil))) (da_cons (dn_var (i := 3)) da_nil)))))
    ds_nil)
  (ds_one (ds_ret (dn_var (i := 1))))))
abbrev sapart : Stmt := topS 35
abbrev Napart : List Str := ["one", "other", "tower", "vector", "scale", "second_tower", "second", "divider", "bits", "low", "high", "least", "most"]
theorem scapart : FnScope Napart ["one", "other"] (defScope sapart) := ⟨rfl, rfl, rfl, by decide +kernel, rfl, by decide +kernel, by decide +kernel⟩
def denapart (cbasis_of : List D → Option D) (cbound : List D → Option D) : List Sl → Option Out :=
  (sSeq (sAsg (dTup (ac (dV 0) (ac (dV 1) a0))) (gTu 2 (gcons (gTu 2 (gcons (gN 2) (gcons (gTu 2 (gcons (gN 3) (gcons (gN 4) gnil))) gnil))) (gcons (gTu 2 (gcons (gN 5) (gcons (gTu 2 (gcons (gN 6) (gcons (gN 7) gnil))) gnil))) gnil))))
  (sSeq (sFor (iSeq (dTup (ac (dK (.int (64))) (ac (d2 fMul (dK (.int 4)) (dK (.int (64)))) (ac (d2 fMul (dK (.int 16)) (dK (.int (64)))) a0))))) (gN 8)
    (sSeq (sAsg (dCall cbound (ac (dV 3) (ac (dCall cbasis_of (ac (dV 2) (ac (dV 8) a0))) a0))) (gTu 2 (gcons (gN 9) (gcons (gN 10) gnil))))
    (sSeq (sAsg (dCall cbound (ac (dV 6) (ac (dCall cbasis_of (ac (dV 5) (ac (dV 8) a0))) a0))) (gTu 2 (gcons (gN 11) (gcons (gN 12) gnil))))
    (sSeq (sIf (dAsB (d2 (fB20 fun i j => decide (j < i)) (d2 fMul (dV 9) (dV 7)) (d2 fMul (dV 12) (dV 4))))
      (sRet (dK (.int 1)))
      sNext)
    (sIf (dAsB (d2 fLtA (d2 fMul (dV 10) (dV 7)) (d2 fMul (dV 11) (dV 4))))
      (sRet (d1 (fI1 fun i => -i) (dK (.int 1))))
      sNext)))))
  (sRet (dK (.int 0)))))
theorem okapart {f : Addr} {fd : FuncData} {k : Nat} (F : Fun K "apart" "apart" sapart f fd) (M : Names mg) {cbasis_of : List D → Option D} {cbound : List D → Option D} (Gbasis_of : Cal P w K mg base k "basis_of" ["tower", "bits"] (SpD C cbasis_of)) (Gbound : Cal P w K mg base k "bound" ["vector", "basis"] (SpD C cbound)) : FnOk P w K mg base CX0 (k + 1) f fd ["one", "other"] (SpD C (runD 2 13 (denapart cbasis_of cbound))) :=
  fn_den F scapart fun cdv A outer s H E hr => (ds_cons (ds_asg (dn_tup (da_cons (dn_var (i := 0)) (da_cons (dn_var (i := 1)) da_nil))) (dg_tup rfl (dg_cons (dg_tup rfl (dg_cons (dg_name (i := 2) scapart.nd) (dg_cons (dg_tup rfl (dg_cons (dg_name (i := 3) scapart.nd) (dg_cons (dg_name (i := 4) scapart.nd) dg_nil))) dg_nil))) (dg_cons (dg_tup rfl (dg_cons (dg_name (i := 5) scapart.nd) (dg_cons (dg_tup rfl (dg_cons (dg_name (i := 6) scapart.nd) (dg_cons (dg_name (i := 7) scapart.nd) dg_nil))) dg_nil))) dg_nil))))
  (ds_cons (ds_for PassesOwn.never rfl (di_seq (dn_tup (da_cons (dn_globI (by rfl) M.FIRST_BITS) (da_cons (dn_mul dn_int (dn_globI (by rfl) M.FIRST_BITS)) (da_cons (dn_mul dn_int (dn_globI (by rfl) M.FIRST_BITS)) da_nil))))) (dg_name (i := 8) scapart.nd)
    (ds_cons (ds_asg (dn_call Gbound.ok hr (by rfl) Gbound.m Gbound.kp Gbound.b pass0 (da_cons (dn_var (i := 3)) (da_cons (dn_call Gbasis_of.ok hr (by rfl) Gbasis_of.m Gbasis_of.kp Gbasis_of.b pass0 (da_cons (dn_var (i := 2)) (da_cons (dn_var (i := 8)) da_nil))) da_nil))) (dg_tup rfl (dg_cons (dg_name (i := 9) scapart.nd) (dg_cons (dg_name (i := 10) scapart.nd) dg_nil))))
    (ds_cons (ds_asg (dn_call Gbound.ok hr (by rfl) Gbound.m Gbound.kp Gbound.b pass0 (da_cons (dn_var (i := 6)) (da_cons (dn_call Gbasis_of.ok hr (by rfl) Gbasis_of.m Gbasis_of.kp Gbasis_of.b pass0 (da_cons (dn_var (i := 5)) (da_cons (dn_var (i := 8)) da_nil))) da_nil))) (dg_tup rfl (dg_cons (dg_name (i := 11) scapart.nd) (dg_cons (dg_name (i := 12) scapart.nd) dg_nil))))
    (ds_cons (ds_if (dt_gt (dn_mul (dn_var (i := 9)) (dn_var (i := 7))) (dn_mul (dn_var (i := 12)) (dn_var (i := 4))))
      (ds_one (ds_ret dn_int))
      ds_nil)
    (ds_one (ds_if (dt_ltA hr.units0 (dn_mul (dn_var (i := 10)) (dn_var (i := 7))) (dn_mul (dn_var (i := 11)) (dn_var (i := 4))))
      (ds_one (ds_ret (dn_neg dn_int)))
      ds_nil))))))
  (ds_one (ds_ret dn_int))))
abbrev s_bases : Stmt := topS 36
abbrev N_bases : List Str := ["tower", "bits", "found", "generator", "longer", "one", "low", "high", "least", "most", "part"]
theorem sc_bases : FnScope N_bases ["tower", "bits"] (defScope s_bases) := ⟨rfl, rfl, rfl, by decide +kernel, rfl, by decide +kernel, by decide +kernel⟩
def den_bases (c_unit : List D → Option D) (cbound : List D → Option D) (c_root : List D → Option D) (c_scaled : List D → Option D) : List Sl → Option Out :=
  (sSeq (sSet 2 (dLst (ac (dCall c_unit (ac (dV 1) a0)) a0)))
  (sSeq (sFor (iSeq (dV 0)) (gN 3)
    (sSeq (sNew 4 a0)
    (sSeq (sFor (iSeq (dV 2)) (gN 5)
      (sSeq (sAsg (dCall cbound (ac (dV 3) (ac (dV 5) a0))) (gTu 2 (gcons (gN 6) (gcons (gN 7) gnil))))
      (sSeq (sIf (dAsB (dChain (fB20 fun i j => decide (i ≤ j)) (fB20 fun i j => decide (i ≤ j)) (dV 6) (dK (.int 0)) (dV 7)))
        (sRet (dK .non))
        sNext)
      (sIf (dAsB (d2 (fB20 fun i j => decide (j < i)) (dV 6) (dK (.int 0))))
        (sSeq (sAsg (dCall c_root (ac (dTup (ac (dV 6) (ac (dV 7) a0))) (ac (dV 1) a0))) (gTu 2 (gcons (gN 8) (gcons (gN 9) gnil))))
        (sSeq (sApp 4 (d2 fAdd (dV 5) (dLc (iSeq (dV 5)) (gN 10) bYes (dCall c_scaled (ac (dV 10) (ac (dTup (ac (dV 8) (ac (dV 9) a0))) (ac (dV 1) a0)))) [10])))
        (sApp 4 (d2 fAdd (dV 5) (dLc (iSeq (dV 5)) (gN 10) bYes (dCall c_scaled (ac (dV 10) (ac (dTup (ac (d1 (fI1 fun i => -i) (dV 9)) (ac (d1 (fI1 fun i => -i) (dV 8)) a0))) (ac (dV 1) a0)))) [10])))))
        sNext))))
    (sFrz 4 (sSet 2 (dV 4))))))
  (sRet (dV 2))))
theorem ok_bases {f : Addr} {fd : FuncData} {k : Nat} (F : Fun K "_bases" "_bases" s_bases f fd) (M : Names mg) {c_unit : List D → Option D} {cbound : List D → Option D} {c_root : List D → Option D} {c_scaled : List D → Option D} (G_unit : Cal P w K mg base k "_unit" ["bits"] (SpD C c_unit)) (Gbound : Cal P w K mg base k "bound" ["vector", "basis"] (SpD C cbound)) (G_root : Cal P w K mg base k "_root" ["square", "bits"] (SpD C c_root)) (G_scaled : Cal P w K mg base k "_scaled" ["one", "other", "bits"] (SpD C c_scaled)) : FnOk P w K mg base CX0 (k + 1) f fd ["tower", "bits"] (SpD C (runD 2 11 (den_bases c_unit cbound c_root c_scaled))) :=
  fn_den F sc_bases fun cdv A outer s H E hr => (ds_cons (ds_set (i := 2) sc_bases.nd (dn_lst (da_cons (dn_call G_unit.ok hr (by rfl) G_unit.m G_unit.kp G_unit.b pass0 (da_cons (dn_var (i := 1)) da_nil)) da_nil)))
  (ds_cons (ds_for PassesOwn.never rfl (di_seq (dn_var (i := 0))) (dg_name (i := 3) sc_bases.nd)
    (ds_cons (ds_new (i := 4) sc_bases.nd da_nil)
    (ds_cons (ds_for PassesOwn.never rfl (di_seq (dn_var (i := 2))) (dg_name (i := 5) sc_bases.nd)
      (ds_cons (ds_asg (dn_call Gbound.ok hr (by rfl) Gbound.m Gbound.kp Gbound.b pass0 (da_cons (dn_var (i := 3)) (da_cons (dn_var (i := 5)) da_nil))) (dg_tup rfl (dg_cons (dg_name (i := 6) sc_bases.nd) (dg_cons (dg_name (i := 7) sc_bases.nd) dg_nil))))
      (ds_cons (ds_if (dt_chain is_b20 is_b20 op_le op_le (dn_var (i := 6)) dn_int (dn_var (i := 7)))
        (ds_one (ds_ret dn_non))
        ds_nil)
      (ds_one (ds_if (dt_gt (dn_var (i := 6)) dn_int)
        (ds_cons (ds_asg (dn_call G_root.ok hr (by rfl) G_root.m G_root.kp G_root.b pass0 (da_cons (dn_tup (da_cons (dn_var (i := 6)) (da_cons (dn_var (i := 7)) da_nil))) (da_cons (dn_var (i := 1)) da_nil))) (dg_tup rfl (dg_cons (dg_name (i := 8) sc_bases.nd) (dg_cons (dg_name (i := 9) sc_bases.nd) dg_nil))))
        (ds_cons (ds_app (i := 4) (dn_add (dn_var (i := 5)) (dn_lc (own := [("part", 10)]) (by rfl) sc_bases.nd (di_seq (dn_var (i := 5))) (blkOk_by (own := [("part", 10)]) (N := N_bases) (sc := defScope s_bases) (by decide +kernel)) (fun _ _ _ _ _ => (dg_name (i := 10) sc_bases.nd)) (fun _ _ _ _ _ => dts_nil) (fun _ _ _ _ _ => (dn_call G_scaled.ok hr (by rfl) G_scaled.m G_scaled.kp G_scaled.b pass0 (da_cons (dn_var (i := 10)) (da_cons (dn_tup (da_cons (dn_var (i := 8)) (da_cons (dn_var (i := 9)) da_nil))) (da_cons (dn_var (i := 1)) da_nil))))))) (hps := fun h => ps_expr h) (hpe := fun h g => pe_bm PySem.F.plainAttrs_list PySem.F.slot_list_append PySem.F.type_list_append mt_append h g))
        (ds_one (ds_app (i := 4) (dn_add (dn_var (i := 5)) (dn_lc (own := [("part", 10)]) (by rfl) sc_bases.nd (di_seq (dn_var (i := 5))) (blkOk_by (own := [("part", 10)]) (N := N_bases) (sc := defScope s_bases) (by decide +kernel)) (fun _ _ _ _ _ => (dg_name (i := 10) sc_bases.nd)) (fun _ _ _ _ _ => dts_nil) (fun _ _ _ _ _ => (dn_call G_scaled.ok hr (by rfl) G_scaled.m G_scaled.kp G_scaled.b pass0 (da_cons (dn_var (i := 10)) (da_cons (dn_tup (da_cons (dn_neg (dn_var (i := 9))) (da_cons (dn_neg (dn_var (i := 8))) da_nil))) (da_cons (dn_var (i := 1)) da_nil))))))) (hps := fun h => ps_expr h) (hpe := fun h g => pe_bm PySem.F.plainAttrs_list PySem.F.slot_list_append PySem.F.type_list_append mt_append h g)))))
        ds_nil)))))
    (dss_frz (i := 4) (ds_one (ds_set (i := 2) sc_bases.nd (dn_var (i := 4))))))))
  (ds_one (ds_ret (dn_var (i := 2))))))
abbrev s_count_below_first : Stmt := topS 37
abbrev N_count_below_first : List Str := ["found", "first_low", "first_high", "count", "low", "high"]
theorem sc_count_below_first : FnScope N_count_below_first ["found"] (defScope s_count_below_first) := ⟨rfl, rfl, rfl, by decide +kernel, rfl, by decide +kernel, by decide +kernel⟩
def den_count_below_first : List Sl → Option Out :=
  (sSeq (sAsg (d2 fIx (dV 0) (dK (.int 0))) (gTu 2 (gcons (gN 1) (gcons (gN 2) gnil))))
  (sSeq (sSet 3 (dK (.int 0)))
  (sSeq (sFor (iSeq (dSl (dV 0) (p1 (dK (.int 1))) p0)) (gTu 2 (gcons (gN 4) (gcons (gN 5) gnil)))
    (sIf (dAsB (d2 fLtA (dV 5) (dV 1)))
      (sAug 3 (fun i j => i + j) (dK (.int 1)))
      (sIf (dAsB (d2 (fB20 fun i j => decide (i ≤ j)) (dV 4) (dV 2)))
        (sRet (dK .non))
        sNext)))
  (sRet (dV 3)))))
theorem ok_count_below_first {f : Addr} {fd : FuncData} {k : Nat} (F : Fun K "_count_below_first" "_count_below_first" s_count_below_first f fd) (M : Names mg) : FnOk P w K mg base CX0 (k + 1) f fd ["found"] (SpD C (runD 1 6 (den_count_below_first))) :=
  fn_den F sc_count_below_first fun cdv A outer s H E hr => (ds_cons (ds_asg (dn_sub_ix (dn_var (i := 0)) dn_int (fun _ _ => rfl)) (dg_tup rfl (dg_cons (dg_name (i := 1) sc_count_below_first.nd) (dg_cons (dg_name (i := 2) sc_count_below_first.nd) dg_nil))))
  (ds_cons (ds_set (i := 3) sc_count_below_first.nd dn_int)
  (ds_cons (ds_for PassesOwn.never rfl (di_seq (dn_slice (dn_var (i := 0)) (dp_some dn_int) dp_none)) (dg_tup rfl (dg_cons (dg_name (i := 4) sc_count_below_first.nd) (dg_cons (dg_name (i := 5) sc_count_below_first.nd) dg_nil)))
    (ds_one (ds_if (dt_ltA hr.units0 (dn_var (i := 5)) (dn_var (i := 1)))
      (ds_one (ds_aug (i := 3) sc_count_below_first.nd dn_int ip_add))
      (ds_one (ds_if (dt_le (dn_var (i := 4)) (dn_var (i := 2)))
        (ds_one (ds_ret dn_non))
        ds_nil)))))
  (ds_one (ds_ret (dn_var (i := 3)))))))
abbrev splace_of : Stmt := topS 38
abbrev Nplace_of : List Str := ["tower", "vector", "bits", "found", "count", "one"]
theorem scplace_of : FnScope Nplace_of ["tower", "vector"] (defScope splace_of) := ⟨rfl, rfl, rfl, by decide +kernel, rfl, by decide +kernel, by decide +kernel⟩
def denplace_of (c_bases : List D → Option D) (cbound : List D → Option D) (c_count_below_first : List D → Option D) : List Sl → Option Out :=
  (sSeq (sSet 2 (dK (.int (64))))
  (whileD (dTru (dK (.bl true)))
    (sSeq (sSet 3 (dCall c_bases (ac (dV 0) (ac (dV 2) a0))))
    (sSeq (sSet 4 (dK .non))
    (sSeq (sIf (dAsB (d2 fNotN (dV 3) (dK .non)))
      (sSet 4 (dCall c_count_below_first (ac (dLc (iSeq (dV 3)) (gN 5) bYes (dCall cbound (ac (dV 1) (ac (dV 5) a0))) [5]) a0)))
      sNext)
    (sSeq (sIf (dAsB (d2 fNotN (dV 4) (dK .non)))
      (sRet (dV 4))
      sNext)
    (sSet 2 (d2 fMul (dK (.int 2)) (dV 2))))))) 8))
theorem okplace_of {f : Addr} {fd : FuncData} {k : Nat} (F : Fun K "place_of" "place_of" splace_of f fd) (M : Names mg) {c_bases : List D → Option D} {cbound : List D → Option D} {c_count_below_first : List D → Option D} (G_bases : Cal P w K mg base k "_bases" ["tower", "bits"] (SpD C c_bases)) (Gbound : Cal P w K mg base k "bound" ["vector", "basis"] (SpD C cbound)) (G_count_below_first : Cal P w K mg base k "_count_below_first" ["found"] (SpD C c_count_below_first)) : FnOk P w K mg base CX0 (k + 1) f fd ["tower", "vector"] (SpD C (runD 2 6 (denplace_of c_bases cbound c_count_below_first))) :=
  fn_den F scplace_of fun cdv A outer s H E hr => (ds_cons (ds_set (i := 2) scplace_of.nd (dn_globI (by rfl) M.FIRST_BITS))
  (ds_one (ds_while 8 PassesOwn.never (dt_truth dn_bl)
    (ds_cons (ds_set (i := 3) scplace_of.nd (dn_call G_bases.ok hr (by rfl) G_bases.m G_bases.kp G_bases.b pass0 (da_cons (dn_var (i := 0)) (da_cons (dn_var (i := 2)) da_nil))))
    (ds_cons (ds_set (i := 4) scplace_of.nd dn_non)
    (ds_cons (ds_if (dt_notN (dn_var (i := 3)))
      (ds_one (ds_set (i := 4) scplace_of.nd (dn_call G_count_below_first.ok hr (by rfl) G_count_below_first.m G_count_below_first.kp G_count_below_first.b pass0 (da_cons (dn_lc (own := [("one", 5)]) (by rfl) scplace_of.nd (di_seq (dn_var (i := 3))) (blkOk_by (own := [("one", 5)]) (N := Nplace_of) (sc := defScope splace_of) (by decide +kernel)) (fun _ _ _ _ _ => (dg_name (i := 5) scplace_of.nd)) (fun _ _ _ _ _ => dts_nil) (fun _ _ _ _ _ => (dn_call Gbound.ok hr (by rfl) Gbound.m Gbound.kp Gbound.b pass0 (da_cons (dn_var (i := 1)) (da_cons (dn_var (i := 5)) da_nil))))) da_nil))))
      ds_nil)
    (ds_cons (ds_if (dt_notN (dn_var (i := 4)))
      (ds_one (ds_ret (dn_var (i := 4))))
      ds_nil)
    (ds_one (ds_set (i := 2) scplace_of.nd (dn_mul dn_int (dn_var (i := 2))))))))))))
end
end K31

set_option maxHeartbeats 4000000
namespace K31
open PySem PySem.Spec PyProof.Rows L2 KG DN
section
variable {P : Program} {w : World} {K : PySem.W.Frag} {mg : Str → Option Value} {base : Heap} {C : Addr}
abbrev ssquare_root : Stmt := topS 41
abbrev Nsquare_root : List Str := ["tower", "vector", "half", "twice", "scale", "found", "first", "turned", "divider", "second"]
theorem scsquare_root : FnScope Nsquare_root ["tower", "vector"] (defScope ssquare_root) := ⟨rfl, rfl, rfl, by decide +kernel, rfl, by decide +kernel, by decide +kernel⟩
def densquare_root (c_integer_root : List D → Option D) (c_root_without_last : List D → Option D) (c_means : List D → Option D) (csquare_root : List D → Option D) (clowest : List D → Option D) (cinverse : List D → Option D) (cmultiplied : List D → Option D) (ctimes : List D → Option D) (cfrom_halves : List D → Option D) : List Sl → Option Out :=
  (sSeq (sSet 2 (d2 fDiv (dCall fLen (ac (dV 1) a0)) (dK (.int 2))))
  (sSeq (sIf (dAsB (d2 fEq (dV 2) (dK (.int 0))))
    (sRet (dCall c_integer_root (ac (d2 fIx (dV 1) (dK (.int 0))) a0)))
    sNext)
  (sSeq (sIf (bNot (dTru (dCall fAny (ac (dSl (dV 1) (p1 (dV 2)) p0) a0))))
    (sRet (dCall c_root_without_last (ac (dV 0) (ac (dV 1) a0))))
    sNext)
  (sSeq (sFor (iSeq (dCall c_means (ac (dV 0) (ac (dV 1) a0)))) (gTu 2 (gcons (gN 3) (gcons (gN 4) gnil)))
    (sSeq (sSet 5 (dCall csquare_root (ac (dV 0) (ac (dV 3) a0))))
    (sIf (dAsB (d2 fNotN (dV 5) (dK .non)))
      (sSeq (sSet 6 (dCall clowest (ac (d2 fIx (dV 5) (dK (.int 0))) (ac (d2 fMul (d2 fMul (d2 fIx (dV 5) (dK (.int 1))) (dK (.int 2))) (dV 4)) a0))))
      (sSeq (sAsg (dCall cinverse (ac (dV 0) (ac (d2 fIx (dV 5) (dK (.int 0))) a0))) (gTu 2 (gcons (gN 7) (gcons (gN 8) gnil))))
      (sSeq (sSet 9 (dCall cmultiplied (ac (dV 0) (ac (dSl (dV 1) (p1 (dV 2)) p0) (ac (dV 7) a0)))))
      (sRet (dCall cfrom_halves (ac (dV 6) (ac (dCall clowest (ac (dCall ctimes (ac (dV 9) (ac (d2 fMul (dV 4) (d2 fIx (dV 5) (dK (.int 1)))) a0))) (ac (dV 8) a0))) a0)))))))
      sNext)))
  (sRet (dK .non))))))
theorem oksquare_root {f : Addr} {fd : FuncData} {k : Nat} (F : Fun K "square_root" "square_root" ssquare_root f fd) (M : Names mg) {c_integer_root : List D → Option D} {c_root_without_last : List D → Option D} {c_means : List D → Option D} {csquare_root : List D → Option D} {clowest : List D → Option D} {cinverse : List D → Option D} {cmultiplied : List D → Option D} {ctimes : List D → Option D} {cfrom_halves : List D → Option D} (G_integer_root : Cal P w K mg base k "_integer_root" ["n"] (SpD C c_integer_root)) (G_root_without_last : Cal P w K mg base k "_root_without_last" ["tower", "vector"] (SpD C c_root_without_last)) (G_means : Cal P w K mg base k "_means" ["tower", "vector"] (SpD C c_means)) (Gsquare_root : Cal P w K mg base k "square_root" ["tower", "vector"] (SpD C csquare_root)) (Glowest : Cal P w K mg base k "lowest" ["vector", "scale"] (SpD C clowest)) (Ginverse : Cal P w K mg base k "inverse" ["tower", "vector"] (SpD C cinverse)) (Gmultiplied : Cal P w K mg base k "multiplied" ["tower", "one", "other"] (SpD C cmultiplied)) (Gtimes : Cal P w K mg base k "times" ["vector", "factor"] (SpD C ctimes)) (Gfrom_halves : Cal P w K mg base k "from_halves" ["low", "high"] (SpD C cfrom_halves)) : FnOk P w K mg base CX0 (k + 1) f fd ["tower", "vector"] (SpD C (runD 2 10 (densquare_root c_integer_root c_root_without_last c_means csquare_root clowest cinverse cmultiplied ctimes cfrom_halves))) :=
  fn_den F scsquare_root fun cdv A outer s H E hr => (ds_cons (ds_set (i := 2) scsquare_root.nd (dn_div (dn_callB is_len call_len_seq (by rfl) M.len PySem.boot_len (da_cons (dn_var (i := 1)) da_nil)) dn_int))
  (ds_cons (ds_if (dt_eq hr.units (dn_var (i := 2)) dn_int)
    (ds_one (ds_ret (dn_call G_integer_root.ok hr (by rfl) G_integer_root.m G_integer_root.kp G_integer_root.b pass0 (da_cons (dn_sub_ix (dn_var (i := 1)) dn_int (fun _ _ => rfl)) da_nil))))
    ds_nil)
  (ds_cons (ds_if (dt_not (dt_truth (dn_callB (is_any (K := K)) (cr_anyA rfl) (by rfl) M.any (by decide +kernel) (da_cons (dn_slice (dn_var (i := 1)) (dp_some (dn_var (i := 2))) dp_none) da_nil))))
    (ds_one (ds_ret (dn_call G_root_without_last.ok hr (by rfl) G_root_without_last.m G_root_without_last.kp G_root_without_last.b pass0 (da_cons (dn_var (i := 0)) (da_cons (dn_var (i := 1)) da_nil)))))
    ds_nil)
  (ds_cons (ds_for PassesOwn.never rfl (di_seq (dn_call G_means.ok hr (by rfl) G_means.m G_means.kp G_means.b pass0 (da_cons (dn_var (i := 0)) (da_cons (dn_var (i := 1)) da_nil)))) (dg_tup rfl (dg_cons (dg_name (i := 3) scsquare_root.nd) (dg_cons (dg_name (i := 4) scsquare_root.nd) dg_nil)))
    (ds_cons (ds_set (i := 5) scsquare_root.nd (dn_call Gsquare_root.ok hr (by rfl) Gsquare_root.m Gsquare_root.kp Gsquare_root.b pass0 (da_cons (dn_var (i := 0)) (da_cons (dn_var (i := 3)) da_nil))))
    (ds_one (ds_if (dt_notN (dn_var (i := 5)))
      (ds_cons (ds_set (i := 6) scsquare_root.nd (dn_call Glowest.ok hr (by rfl) Glowest.m Glowest.kp Glowest.b pass0 (da_cons (dn_sub_ix (dn_var (i := 5)) dn_int (fun _ _ => rfl)) (da_cons (dn_mul (dn_mul (dn_sub_ix (dn_var (i := 5)) dn_int (fun _ _ => rfl)) dn_int) (dn_var (i := 4))) da_nil))))
      (ds_cons (ds_asg (dn_call Ginverse.ok hr (by rfl) Ginverse.m Ginverse.kp Ginverse.b pass0 (da_cons (dn_var (i := 0)) (da_cons (dn_sub_ix (dn_var (i := 5)) dn_int (fun _ _ => rfl)) da_nil))) (dg_tup rfl (dg_cons (dg_name (i := 7) scsquare_root.nd) (dg_cons (dg_name (i := 8) scsquare_root.nd) dg_nil))))
      (ds_cons (ds_set (i := 9) scsquare_root.nd (dn_call Gmultiplied.ok hr (by rfl) Gmultiplied.m Gmultiplied.kp Gmultiplied.b pass0 (da_cons (dn_var (i := 0)) (da_cons (dn_slice (dn_var (i := 1)) (dp_some (dn_var (i := 2))) dp_none) (da_cons (dn_var (i := 7)) da_nil)))))
      (ds_one (ds_ret (dn_call Gfrom_halves.ok hr (by rfl) Gfrom_halves.m Gfrom_halves.kp Gfrom_halves.b pass0 (da_cons (dn_var (i := 6)) (da_cons (dn_call Glowest.ok hr (by rfl) Glowest.m Glowest.kp Glowest.b pass0 (da_cons (dn_call Gtimes.ok hr (by rfl) Gtimes.m Gtimes.kp Gtimes.b pass0 (da_cons (dn_var (i := 9)) (da_cons (dn_mul (dn_var (i := 4)) (dn_sub_ix (dn_var (i := 5)) dn_int (fun _ _ => rfl))) da_nil))) (da_cons (dn_var (i := 8)) da_nil))) da_nil))))))))
      ds_nil))))
  (ds_one (ds_ret dn_non))))))
abbrev s_integer_root : Stmt := topS 42
abbrev N_integer_root : List Str := ["n", "root"]
theorem sc_integer_root : FnScope N_integer_root ["n"] (defScope s_integer_root) := ⟨rfl, rfl, rfl, by decide +kernel, rfl, by decide +kernel, by decide +kernel⟩
def den_integer_root : List Sl → Option Out :=
  (sSeq (sIf (dAsB (d2 fLtA (dV 0) (dK (.int 0))))
    (sRet (dK .non))
    sNext)
  (sSeq (sSet 1 (dCall fIsqrt (ac (dV 0) a0)))
  (sSeq (sIf (dAsB (d2 fEq (d2 fMul (dV 1) (dV 1)) (dV 0)))
    (sRet (dTup (ac (dTup (ac (dV 1) a0)) (ac (dK (.int 1)) a0))))
    sNext)
  (sRet (dK .non)))))
theorem ok_integer_root {f : Addr} {fd : FuncData} {k : Nat} (F : Fun K "_integer_root" "_integer_root" s_integer_root f fd) (M : Names mg) : FnOk P w K mg base CX0 (k + 1) f fd ["n"] (SpD C (runD 1 2 (den_integer_root))) :=
  fn_den F sc_integer_root fun cdv A outer s H E hr => (ds_cons (ds_if (dt_ltA hr.units0 (dn_var (i := 0)) dn_int)
    (ds_one (ds_ret dn_non))
    ds_nil)
  (ds_cons (ds_set (i := 1) sc_integer_root.nd (dn_callBfun is_isqrt cr_isqrt (by rfl) M.isqrt (da_cons (dn_var (i := 0)) da_nil)))
  (ds_cons (ds_if (dt_eq hr.units (dn_mul (dn_var (i := 1)) (dn_var (i := 1))) (dn_var (i := 0)))
    (ds_one (ds_ret (dn_tup (da_cons (dn_tup (da_cons (dn_var (i := 1)) da_nil)) (da_cons dn_int da_nil)))))
    ds_nil)
  (ds_one (ds_ret dn_non)))))
abbrev s_root_without_last : Stmt := topS 43
abbrev N_root_without_last : List Str := ["tower", "vector", "low", "found", "generator", "zero"]
theorem sc_root_without_last : FnScope N_root_without_last ["tower", "vector"] (defScope s_root_without_last) := ⟨rfl, rfl, rfl, by decide +kernel, rfl, by decide +kernel, by decide +kernel⟩
def den_root_without_last (csquare_root : List D → Option D) (cpadded : List D → Option D) (clast_generator : List D → Option D) (cmultiplied : List D → Option D) (cinverse : List D → Option D) (celement_product : List D → Option D) (cfrom_halves : List D → Option D) : List Sl → Option Out :=
  (sSeq (sSet 2 (dSl (dV 1) p0 (p1 (d2 fDiv (dCall fLen (ac (dV 1) a0)) (dK (.int 2))))))
  (sSeq (sSet 3 (dCall csquare_root (ac (dV 0) (ac (dV 2) a0))))
  (sSeq (sIf (dAsB (d2 fNotN (dV 3) (dK .non)))
    (sRet (dTup (ac (dCall cpadded (ac (d2 fIx (dV 3) (dK (.int 0))) (ac (dCall fLen (ac (dV 1) a0)) a0))) (ac (d2 fIx (dV 3) (dK (.int 1))) a0))))
    sNext)
  (sSeq (sSet 4 (dCall clast_generator (ac (dV 0) (ac (dV 1) a0))))
  (sSeq (sSet 3 (dCall csquare_root (ac (dV 0) (ac (dCall cmultiplied (ac (dV 0) (ac (dV 2) (ac (dV 4) a0)))) a0))))
  (sSeq (sIf (dAsB (d2 fIsN (dV 3) (dK .non)))
    (sRet (dK .non))
    sNext)
  (sSeq (sSet 5 (dTup (ac (d2 fMul (dTup (ac (dK (.int 0)) a0)) (dCall fLen (ac (dV 2) a0))) (ac (dK (.int 1)) a0))))
  (sRet (dCall cfrom_halves (ac (dV 5) (ac (dCall celement_product (ac (dV 0) (ac (dV 3) (ac (dCall cinverse (ac (dV 0) (ac (dV 4) a0))) a0)))) a0)))))))))))
theorem ok_root_without_last {f : Addr} {fd : FuncData} {k : Nat} (F : Fun K "_root_without_last" "_root_without_last" s_root_without_last f fd) (M : Names mg) {csquare_root : List D → Option D} {cpadded : List D → Option D} {clast_generator : List D → Option D} {cmultiplied : List D → Option D} {cinverse : List D → Option D} {celement_product : List D → Option D} {cfrom_halves : List D → Option D} (Gsquare_root : Cal P w K mg base k "square_root" ["tower", "vector"] (SpD C csquare_root)) (Gpadded : Cal P w K mg base k "padded" ["vector", "size"] (SpD C cpadded)) (Glast_generator : Cal P w K mg base k "last_generator" ["tower", "vector"] (SpD C clast_generator)) (Gmultiplied : Cal P w K mg base k "multiplied" ["tower", "one", "other"] (SpD C cmultiplied)) (Ginverse : Cal P w K mg base k "inverse" ["tower", "vector"] (SpD C cinverse)) (Gelement_product : Cal P w K mg base k "element_product" ["tower", "one", "other"] (SpD C celement_product)) (Gfrom_halves : Cal P w K mg base k "from_halves" ["low", "high"] (SpD C cfrom_halves)) : FnOk P w K mg base CX0 (k + 1) f fd ["tower", "vector"] (SpD C (runD 2 6 (den_root_without_last csquare_root cpadded clast_generator cmultiplied cinverse celement_product cfrom_halves))) :=
  fn_den F sc_root_without_last fun cdv A outer s H E hr => (ds_cons (ds_set (i := 2) sc_root_without_last.nd (dn_slice (dn_var (i := 1)) dp_none (dp_some (dn_div (dn_callB is_len call_len_seq (by rfl) M.len PySem.boot_len (da_cons (dn_var (i := 1)) da_nil)) dn_int))))
  (ds_cons (ds_set (i := 3) sc_root_without_last.nd (dn_call Gsquare_root.ok hr (by rfl) Gsquare_root.m Gsquare_root.kp Gsquare_root.b pass0 (da_cons (dn_var (i := 0)) (da_cons (dn_var (i := 2)) da_nil))))
  (ds_cons (ds_if (dt_notN (dn_var (i := 3)))
    (ds_one (ds_ret (dn_tup (da_cons (dn_call Gpadded.ok hr (by rfl) Gpadded.m Gpadded.kp Gpadded.b pass0 (da_cons (dn_sub_ix (dn_var (i := 3)) dn_int (fun _ _ => rfl)) (da_cons (dn_callB is_len call_len_seq (by rfl) M.len PySem.boot_len (da_cons (dn_var (i := 1)) da_nil)) da_nil))) (da_cons (dn_sub_ix (dn_var (i := 3)) dn_int (fun _ _ => rfl)) da_nil)))))
    ds_nil)
  (ds_cons (ds_set (i := 4) sc_root_without_last.nd (dn_call Glast_generator.ok hr (by rfl) Glast_generator.m Glast_generator.kp Glast_generator.b pass0 (da_cons (dn_var (i := 0)) (da_cons (dn_var (i := 1)) da_nil))))
  (ds_cons (ds_set (i := 3) sc_root_without_last.nd (dn_call Gsquare_root.ok hr (by rfl) Gsquare_root.m Gsquare_root.kp Gsquare_root.b pass0 (da_cons (dn_var (i := 0)) (da_cons (dn_call Gmultiplied.ok hr (by rfl) Gmultiplied.m Gmultiplied.kp Gmultiplied.b pass0 (da_cons (dn_var (i := 0)) (da_cons (dn_var (i := 2)) (da_cons (dn_var (i := 4)) da_nil)))) da_nil))))
  (ds_cons (ds_if (dt_isN (dn_var (i := 3)))
    (ds_one (ds_ret dn_non))
    ds_nil)
  (ds_cons (ds_set (i := 5) sc_root_without_last.nd (dn_tup (da_cons (dn_mul (dn_tup (da_cons dn_int da_nil)) (dn_callB is_len call_len_seq (by rfl) M.len PySem.boot_len (da_cons (dn_var (i := 2)) da_nil))) (da_cons dn_int da_nil))))
  (ds_one (ds_ret (dn_call Gfrom_halves.ok hr (by rfl) Gfrom_halves.m Gfrom_halves.kp Gfrom_halves.b pass0 (da_cons (dn_var (i := 5)) (da_cons (dn_call Gelement_product.ok hr (by rfl) Gelement_product.m Gelement_product.kp Gelement_product.b pass0 (da_cons (dn_var (i := 0)) (da_cons (dn_var (i := 3)) (da_cons (dn_call Ginverse.ok hr (by rfl) Ginverse.m Ginverse.kp Ginverse.b pass0 (da_cons (dn_var (i := 0)) (da_cons (dn_var (i := 4)) da_nil))) da_nil)))) da_nil))))))))))))
abbrev s_means : Stmt := topS 44
abbrev N_means : List Str := ["tower", "vector", "found", "root", "scale", "low", "side"]
theorem sc_means : FnScope N_means ["tower", "vector"] (defScope s_means) := ⟨rfl, rfl, rfl, by decide +kernel, rfl, by decide +kernel, by decide +kernel⟩
def den_means (cnorm : List D → Option D) (csquare_root : List D → Option D) (ctimes : List D → Option D) (cplus : List D → Option D) : List Sl → Option Out :=
  (sSeq (sSet 2 (dCall csquare_root (ac (dV 0) (ac (dCall cnorm (ac (dV 0) (ac (dV 1) a0))) a0))))
  (sSeq (sIf (dAsB (d2 fIsN (dV 2) (dK .non)))
    (sRet (dLst a0))
    sNext)
  (sSeq (sAsg (dV 2) (gTu 2 (gcons (gN 3) (gcons (gN 4) gnil))))
  (sSeq (sSet 5 (dCall ctimes (ac (dSl (dV 1) p0 (p1 (d2 fDiv (dCall fLen (ac (dV 1) a0)) (dK (.int 2))))) (ac (dV 4) a0))))
  (sRet (dLc (iSeq (dTup (ac (dK (.int 1)) (ac (d1 (fI1 fun i => -i) (dK (.int 1))) a0)))) (gN 6) bYes (dTup (ac (dCall ctimes (ac (dCall cplus (ac (dV 5) (ac (dCall ctimes (ac (dV 3) (ac (dV 6) a0))) a0))) (ac (d2 fMul (dK (.int 2)) (dV 4)) a0))) (ac (dV 4) a0))) [6]))))))
theorem ok_means {f : Addr} {fd : FuncData} {k : Nat} (F : Fun K "_means" "_means" s_means f fd) (M : Names mg) {cnorm : List D → Option D} {csquare_root : List D → Option D} {ctimes : List D → Option D} {cplus : List D → Option D} (Gnorm : Cal P w K mg base k "norm" ["tower", "vector"] (SpD C cnorm)) (Gsquare_root : Cal P w K mg base k "square_root" ["tower", "vector"] (SpD C csquare_root)) (Gtimes : Cal P w K mg base k "times" ["vector", "factor"] (SpD C ctimes)) (Gplus : Cal P w K mg base k "plus" ["one", "other"] (SpD C cplus)) : FnOk P w K mg base CX0 (k + 1) f fd ["tower", "vector"] (SpD C (runD 2 7 (den_means cnorm csquare_root ctimes cplus))) :=
  fn_den F sc_means fun cdv A outer s H E hr => (ds_cons (ds_set (i := 2) sc_means.nd (dn_call Gsquare_root.ok hr (by rfl) Gsquare_root.m Gsquare_root.kp Gsquare_root.b pass0 (da_cons (dn_var (i := 0)) (da_cons (dn_call Gnorm.ok hr (by rfl) Gnorm.m Gnorm.kp Gnorm.b pass0 (da_cons (dn_var (i := 0)) (da_cons (dn_var (i := 1)) da_nil))) da_nil))))
  (ds_cons (ds_if (dt_isN (dn_var (i := 2)))
    (ds_one (ds_ret (dn_lst da_nil)))
    ds_nil)
  (ds_cons (ds_asg (dn_var (i := 2)) (dg_tup rfl (dg_cons (dg_name (i := 3) sc_means.nd) (dg_cons (dg_name (i := 4) sc_means.nd) dg_nil))))
  (ds_cons (ds_set (i := 5) sc_means.nd (dn_call Gtimes.ok hr (by rfl) Gtimes.m Gtimes.kp Gtimes.b pass0 (da_cons (dn_slice (dn_var (i := 1)) dp_none (dp_some (dn_div (dn_callB is_len call_len_seq (by rfl) M.len PySem.boot_len (da_cons (dn_var (i := 1)) da_nil)) dn_int))) (da_cons (dn_var (i := 4)) da_nil))))
  (ds_one (ds_ret (dn_lc (own := [("side", 6)]) (by rfl) sc_means.nd (di_seq (dn_tup (da_cons dn_int (da_cons (dn_neg dn_int) da_nil)))) (blkOk_by (own := [("side", 6)]) (N := N_means) (sc := defScope s_means) (by decide +kernel)) (fun _ _ _ _ _ => (dg_name (i := 6) sc_means.nd)) (fun _ _ _ _ _ => dts_nil) (fun _ _ _ _ _ => (dn_tup (da_cons (dn_call Gtimes.ok hr (by rfl) Gtimes.m Gtimes.kp Gtimes.b pass0 (da_cons (dn_call Gplus.ok hr (by rfl) Gplus.m Gplus.kp Gplus.b pass0 (da_cons (dn_var (i := 5)) (da_cons (dn_call Gtimes.ok hr (by rfl) Gtimes.m Gtimes.kp Gtimes.b pass0 (da_cons (dn_var (i := 3)) (da_cons (dn_var (i := 6)) da_nil))) da_nil))) (da_cons (dn_mul dn_int (dn_var (i := 4))) da_nil))) (da_cons (dn_var (i := 4)) da_nil)))))))))))
abbrev sadjoined : Stmt := topS 45
abbrev Nadjoined : List Str := ["tower", "square", "vector", "scale", "whole", "common", "n", "known", "generator", "root"]
theorem scadjoined : FnScope Nadjoined ["tower", "square"] (defScope sadjoined) := ⟨rfl, rfl, rfl, by decide +kernel, rfl, by decide +kernel, by decide +kernel⟩
def denadjoined (ctimes : List D → Option D) (c_square_part : List D → Option D) (cpadded : List D → Option D) (clowest : List D → Option D) : List Sl → Option Out :=
  (sSeq (sAsg (dV 1) (gTu 2 (gcons (gN 2) (gcons (gN 3) gnil))))
  (sSeq (sSet 4 (dCall ctimes (ac (dV 2) (ac (dV 3) a0))))
  (sSeq (sSet 5 (dK (.int 0)))
  (sSeq (sFor (iSeq (dV 4)) (gN 6)
    (sSet 5 (dCall fGcd (ac (dV 5) (ac (dV 6) a0)))))
  (sSeq (sSet 7 (dCall c_square_part (ac (dV 5) a0)))
  (sSeq (sSet 8 (dCall fTuple (ac (dLc (iSeq (dV 4)) (gN 6) bYes (d2 fDiv (dV 6) (d2 fMul (dV 7) (dV 7))) [6]) a0)))
  (sSeq (sSet 9 (d2 fAdd (d2 fMul (dTup (ac (dK (.int 0)) a0)) (dCall fLen (ac (dV 2) a0))) (dCall cpadded (ac (dTup (ac (dV 7) a0)) (ac (dCall fLen (ac (dV 2) a0)) a0)))))
  (sRet (dTup (ac (d2 fAdd (dV 0) (dTup (ac (dV 8) a0))) (ac (dCall clowest (ac (dV 9) (ac (dV 3) a0))) a0)))))))))))
theorem okadjoined {f : Addr} {fd : FuncData} {k : Nat} (F : Fun K "adjoined" "adjoined" sadjoined f fd) (M : Names mg) {ctimes : List D → Option D} {c_square_part : List D → Option D} {cpadded : List D → Option D} {clowest : List D → Option D} (Gtimes : Cal P w K mg base k "times" ["vector", "factor"] (SpD C ctimes)) (G_square_part : Cal P w K mg base k "_square_part" ["n"] (SpD C c_square_part)) (Gpadded : Cal P w K mg base k "padded" ["vector", "size"] (SpD C cpadded)) (Glowest : Cal P w K mg base k "lowest" ["vector", "scale"] (SpD C clowest)) : FnOk P w K mg base CX0 (k + 1) f fd ["tower", "square"] (SpD C (runD 2 10 (denadjoined ctimes c_square_part cpadded clowest))) :=
  fn_den F scadjoined fun cdv A outer s H E hr => (ds_cons (ds_asg (dn_var (i := 1)) (dg_tup rfl (dg_cons (dg_name (i := 2) scadjoined.nd) (dg_cons (dg_name (i := 3) scadjoined.nd) dg_nil))))
  (ds_cons (ds_set (i := 4) scadjoined.nd (dn_call Gtimes.ok hr (by rfl) Gtimes.m Gtimes.kp Gtimes.b pass0 (da_cons (dn_var (i := 2)) (da_cons (dn_var (i := 3)) da_nil))))
  (ds_cons (ds_set (i := 5) scadjoined.nd dn_int)
  (ds_cons (ds_for PassesOwn.never rfl (di_seq (dn_var (i := 4))) (dg_name (i := 6) scadjoined.nd)
    (ds_one (ds_set (i := 5) scadjoined.nd (dn_callBfun is_gcd cr_gcd (by rfl) M.gcd (da_cons (dn_var (i := 5)) (da_cons (dn_var (i := 6)) da_nil))))))
  (ds_cons (ds_set (i := 7) scadjoined.nd (dn_call G_square_part.ok hr (by rfl) G_square_part.m G_square_part.kp G_square_part.b pass0 (da_cons (dn_var (i := 5)) da_nil)))
  (ds_cons (ds_set (i := 8) scadjoined.nd (dn_callTy (is_tuple (K := K)) call_tuple_of (by rfl) M.tuple (by decide +kernel) (da_cons (dn_lc (own := [("n", 6)]) (by rfl) scadjoined.nd (di_seq (dn_var (i := 4))) (blkOk_by (own := [("n", 6)]) (N := Nadjoined) (sc := defScope sadjoined) (by decide +kernel)) (fun _ _ _ _ _ => (dg_name (i := 6) scadjoined.nd)) (fun _ _ _ _ _ => dts_nil) (fun _ _ _ _ _ => (dn_div (dn_var (i := 6)) (dn_mul (dn_var (i := 7)) (dn_var (i := 7)))))) da_nil)))
  (ds_cons (ds_set (i := 9) scadjoined.nd (dn_add (dn_mul (dn_tup (da_cons dn_int da_nil)) (dn_callB is_len call_len_seq (by rfl) M.len PySem.boot_len (da_cons (dn_var (i := 2)) da_nil))) (dn_call Gpadded.ok hr (by rfl) Gpadded.m Gpadded.kp Gpadded.b pass0 (da_cons (dn_tup (da_cons (dn_var (i := 7)) da_nil)) (da_cons (dn_callB is_len call_len_seq (by rfl) M.len PySem.boot_len (da_cons (dn_var (i := 2)) da_nil)) da_nil)))))
  (ds_one (ds_ret (dn_tup (da_cons (dn_add (dn_var (i := 0)) (dn_tup (da_cons (dn_var (i := 8)) da_nil))) (da_cons (dn_call Glowest.ok hr (by rfl) Glowest.m Glowest.kp Glowest.b pass0 (da_cons (dn_var (i := 9)) (da_cons (dn_var (i := 3)) da_nil))) da_nil))))))))))))
abbrev s_square_part : Stmt := topS 46
abbrev N_square_part : List Str := ["n", "found", "k", "root"]
theorem sc_square_part : FnScope N_square_part ["n"] (defScope s_square_part) := ⟨rfl, rfl, rfl, by decide +kernel, rfl, by decide +kernel, by decide +kernel⟩
def den_square_part : List Sl → Option Out :=
  (sSeq (sSet 1 (dK (.int 1)))
  (sSeq (sFor (iRng r2D (ac (dK (.int 2)) (ac (dK (.int (100))) a0))) (gN 2)
    (sSeq (whileD (dAsB (d2 fEq (d2 fMod (dV 0) (d2 fMul (dV 2) (dV 2))) (dK (.int 0))))
      (sSeq (sSet 0 (d2 fDiv (dV 0) (d2 fMul (dV 2) (dV 2))))
      (sSet 1 (d2 fMul (dV 1) (dV 2)))) 1000)
    (sIf (dAsB (d2 fEq (d2 fMod (dV 0) (dV 2)) (dK (.int 0))))
      (sSet 0 (d2 fDiv (dV 0) (dV 2)))
      sNext)))
  (sSeq (sSet 3 (dCall fIsqrt (ac (dV 0) a0)))
  (sSeq (sIf (dAsB (d2 fEq (d2 fMul (dV 3) (dV 3)) (dV 0)))
    (sRet (d2 fMul (dV 1) (dV 3)))
    sNext)
  (sRet (dV 1))))))
theorem ok_square_part {f : Addr} {fd : FuncData} {k : Nat} (F : Fun K "_square_part" "_square_part" s_square_part f fd) (M : Names mg) : FnOk P w K mg base CX0 (k + 1) f fd ["n"] (SpD C (runD 1 4 (den_square_part))) :=
  fn_den F sc_square_part fun cdv A outer s H E hr => (ds_cons (ds_set (i := 1) sc_square_part.nd dn_int)
  (ds_cons (ds_for PassesOwn.never rfl (di_range2 (by rfl) M.range (da_cons dn_int (da_cons (dn_globI (by rfl) M.MOST_TRIED) da_nil))) (dg_name (i := 2) sc_square_part.nd)
    (ds_cons (ds_while 1000 PassesOwn.never (dt_eq hr.units (dn_mod (dn_var (i := 0)) (dn_mul (dn_var (i := 2)) (dn_var (i := 2)))) dn_int)
      (ds_cons (ds_set (i := 0) sc_square_part.nd (dn_div (dn_var (i := 0)) (dn_mul (dn_var (i := 2)) (dn_var (i := 2)))))
      (ds_one (ds_set (i := 1) sc_square_part.nd (dn_mul (dn_var (i := 1)) (dn_var (i := 2)))))))
    (ds_one (ds_if (dt_eq hr.units (dn_mod (dn_var (i := 0)) (dn_var (i := 2))) dn_int)
      (ds_one (ds_set (i := 0) sc_square_part.nd (dn_div (dn_var (i := 0)) (dn_var (i := 2)))))
      ds_nil))))
  (ds_cons (ds_set (i := 3) sc_square_part.nd (dn_callBfun is_isqrt cr_isqrt (by rfl) M.isqrt (da_cons (dn_var (i := 0)) da_nil)))
  (ds_cons (ds_if (dt_eq hr.units (dn_mul (dn_var (i := 3)) (dn_var (i := 3))) (dn_var (i := 0)))
    (ds_one (ds_ret (dn_mul (dn_var (i := 1)) (dn_var (i := 3)))))
    ds_nil)
  (ds_one (ds_ret (dn_var (i := 1))))))))
abbrev snew_squares : Stmt := topS 47
abbrev Nnew_squares : List Str := ["tower", "base", "found", "generator", "partner"]
theorem scnew_squares : FnScope Nnew_squares ["tower", "base"] (defScope snew_squares) := ⟨rfl, rfl, rfl, by decide +kernel, rfl, by decide +kernel, by decide +kernel⟩
def dennew_squares (c_partner : List D → Option D) : List Sl → Option Out :=
  (sSeq (sNew 2 a0)
  (sSeq (sFor (iSeq (dSl (dV 0) (p1 (dV 1)) p0)) (gN 3)
    (sSeq (sSet 4 (dCall c_partner (ac (dV 0) (ac (d2 fShl (dK (.int 1)) (dV 1)) (ac (dV 3) a0)))))
    (sIf (dAsB (d2 fNotN (dV 4) (dK .non)))
      (sApp 2 (dV 4))
      sNext)))
  (sFrz 2 (sRet (dV 2)))))
theorem oknew_squares {f : Addr} {fd : FuncData} {k : Nat} (F : Fun K "new_squares" "new_squares" snew_squares f fd) (M : Names mg) {c_partner : List D → Option D} (G_partner : Cal P w K mg base k "_partner" ["tower", "size", "vector"] (SpD C c_partner)) : FnOk P w K mg base CX0 (k + 1) f fd ["tower", "base"] (SpD C (runD 2 5 (dennew_squares c_partner))) :=
  fn_den F scnew_squares fun cdv A outer s H E hr => (ds_cons (ds_new (i := 2) scnew_squares.nd da_nil)
  (ds_cons (ds_for PassesOwn.never rfl (di_seq (dn_slice (dn_var (i := 0)) (dp_some (dn_var (i := 1))) dp_none)) (dg_name (i := 3) scnew_squares.nd)
    (ds_cons (ds_set (i := 4) scnew_squares.nd (dn_call G_partner.ok hr (by rfl) G_partner.m G_partner.kp G_partner.b pass0 (da_cons (dn_var (i := 0)) (da_cons (dn_shl dn_int (dn_var (i := 1))) (da_cons (dn_var (i := 3)) da_nil)))))
    (ds_one (ds_if (dt_notN (dn_var (i := 4)))
      (ds_one (ds_app (i := 2) (dn_var (i := 4)) (hps := fun h => ps_expr h) (hpe := fun h g => pe_bm PySem.F.plainAttrs_list PySem.F.slot_list_append PySem.F.type_list_append mt_append h g)))
      ds_nil))))
  (dss_frz (i := 2) (ds_one (ds_ret (dn_var (i := 2)))))))
abbrev s_partner : Stmt := topS 48
abbrev N_partner : List Str := ["tower", "size", "vector", "half", "candidates", "low", "candidate", "found", "pair"]
theorem sc_partner : FnScope N_partner ["tower", "size", "vector"] (defScope s_partner) := ⟨rfl, rfl, rfl, by decide +kernel, rfl, by decide +kernel, by decide +kernel⟩
def den_partner (c_means : List D → Option D) (clast_generator : List D → Option D) (cmultiplied : List D → Option D) (c_partner : List D → Option D) : List Sl → Option Out :=
  (sSeq (sIf (dAsB (d2 fEq (dCall fLen (ac (dV 2) a0)) (dV 1)))
    (sRet (dV 2))
    sNext)
  (sSeq (sSet 3 (d2 fDiv (dCall fLen (ac (dV 2) a0)) (dK (.int 2))))
  (sSeq (sIf (dTru (dCall fAny (ac (dSl (dV 2) (p1 (dV 3)) p0) a0)))
    (sSet 4 (dLc (iSeq (dCall c_means (ac (dV 0) (ac (dV 2) a0)))) (gN 8) bYes (d2 fIx (dV 8) (dK (.int 0))) [8]))
    (sSeq (sSet 5 (dSl (dV 2) p0 (p1 (dV 3))))
    (sSet 4 (dLst (ac (dV 5) (ac (dCall cmultiplied (ac (dV 0) (ac (dV 5) (ac (dCall clast_generator (ac (dV 0) (ac (dV 2) a0))) a0)))) a0))))))
  (sSeq (sFor (iSeq (dV 4)) (gN 6)
    (sSeq (sSet 7 (dCall c_partner (ac (dV 0) (ac (dV 1) (ac (dV 6) a0)))))
    (sIf (dAsB (d2 fNotN (dV 7) (dK .non)))
      (sRet (dV 7))
      sNext)))
  (sRet (dK .non))))))
theorem ok_partner {f : Addr} {fd : FuncData} {k : Nat} (F : Fun K "_partner" "_partner" s_partner f fd) (M : Names mg) {c_means : List D → Option D} {clast_generator : List D → Option D} {cmultiplied : List D → Option D} {c_partner : List D → Option D} (G_means : Cal P w K mg base k "_means" ["tower", "vector"] (SpD C c_means)) (Glast_generator : Cal P w K mg base k "last_generator" ["tower", "vector"] (SpD C clast_generator)) (Gmultiplied : Cal P w K mg base k "multiplied" ["tower", "one", "other"] (SpD C cmultiplied)) (G_partner : Cal P w K mg base k "_partner" ["tower", "size", "vector"] (SpD C c_partner)) : FnOk P w K mg base CX0 (k + 1) f fd ["tower", "size", "vector"] (SpD C (runD 3 9 (den_partner c_means clast_generator cmultiplied c_partner))) :=
  fn_den F sc_partner fun cdv A outer s H E hr => (ds_cons (ds_if (dt_eq hr.units (dn_callB is_len call_len_seq (by rfl) M.len PySem.boot_len (da_cons (dn_var (i := 2)) da_nil)) (dn_var (i := 1)))
    (ds_one (ds_ret (dn_var (i := 2))))
    ds_nil)
  (ds_cons (ds_set (i := 3) sc_partner.nd (dn_div (dn_callB is_len call_len_seq (by rfl) M.len PySem.boot_len (da_cons (dn_var (i := 2)) da_nil)) dn_int))
  (ds_cons (ds_if (dt_truth (dn_callB (is_any (K := K)) (cr_anyA rfl) (by rfl) M.any (by decide +kernel) (da_cons (dn_slice (dn_var (i := 2)) (dp_some (dn_var (i := 3))) dp_none) da_nil)))
    (ds_one (ds_setLc (own := [("pair", 8)]) (i := 4) (by rfl) sc_partner.nd rfl rfl (sw_true rfl rfl rfl (by decide +kernel)) (di_seq (dn_call G_means.ok hr (by rfl) G_means.m G_means.kp G_means.b pass0 (da_cons (dn_var (i := 0)) (da_cons (dn_var (i := 2)) da_nil)))) (blkOk_by (own := [("pair", 8)]) (N := N_partner) (sc := defScope s_partner) (by decide +kernel)) (fun _ _ _ _ _ => (dg_name (i := 8) sc_partner.nd)) (fun _ _ _ _ _ => dts_nil) (fun _ _ _ _ _ => (dn_sub_ix (dn_var (i := 8)) dn_int (fun _ _ => rfl)))))
    (ds_cons (ds_set (i := 5) sc_partner.nd (dn_slice (dn_var (i := 2)) dp_none (dp_some (dn_var (i := 3)))))
    (ds_one (ds_set (i := 4) sc_partner.nd (dn_lst (da_cons (dn_var (i := 5)) (da_cons (dn_call Gmultiplied.ok hr (by rfl) Gmultiplied.m Gmultiplied.kp Gmultiplied.b pass0 (da_cons (dn_var (i := 0)) (da_cons (dn_var (i := 5)) (da_cons (dn_call Glast_generator.ok hr (by rfl) Glast_generator.m Glast_generator.kp Glast_generator.b pass0 (da_cons (dn_var (i := 0)) (da_cons (dn_var (i := 2)) da_nil))) da_nil)))) da_nil)))))))
  (ds_cons (ds_for PassesOwn.never rfl (di_seq (dn_var (i := 4))) (dg_name (i := 6) sc_partner.nd)
    (ds_cons (ds_set (i := 7) sc_partner.nd (dn_call G_partner.ok hr (by rfl) G_partner.m G_partner.kp G_partner.b pass0 (da_cons (dn_var (i := 0)) (da_cons (dn_var (i := 1)) (da_cons (dn_var (i := 6)) da_nil)))))
    (ds_one (ds_if (dt_notN (dn_var (i := 7)))
      (ds_one (ds_ret (dn_var (i := 7))))
      ds_nil))))
  (ds_one (ds_ret dn_non))))))
end
end K31

set_option maxHeartbeats 4000000
namespace K31
open PySem PySem.Spec PyProof.Rows L2 KG DN
section
variable {P : Program} {w : World} {K : PySem.W.Frag} {mg : Str → Option Value} {base : Heap} {C : Addr}
abbrev swidened : Stmt := topS 50
abbrev Nwidened : List Str := ["element", "size"]
theorem scwidened : FnScope Nwidened ["element", "size"] (defScope swidened) := ⟨rfl, rfl, rfl, by decide +kernel, rfl, by decide +kernel, by decide +kernel⟩
def denwidened (cpadded : List D → Option D) : List Sl → Option Out :=
  (sRet (dTup (ac (dCall cpadded (ac (d2 fIx (dV 0) (dK (.int 0))) (ac (dV 1) a0))) (ac (d2 fIx (dV 0) (dK (.int 1))) a0))))
theorem okwidened {f : Addr} {fd : FuncData} {k : Nat} (F : Fun K "widened" "widened" swidened f fd) (M : Names mg) {cpadded : List D → Option D} (Gpadded : Cal P w K mg base k "padded" ["vector", "size"] (SpD C cpadded)) : FnOk P w K mg base CX0 (k + 1) f fd ["element", "size"] (SpD C (runD 2 2 (denwidened cpadded))) :=
  fn_den F scwidened fun cdv A outer s H E hr => (ds_one (ds_ret (dn_tup (da_cons (dn_call Gpadded.ok hr (by rfl) Gpadded.m Gpadded.kp Gpadded.b pass0 (da_cons (dn_sub_ix (dn_var (i := 0)) dn_int (fun _ _ => rfl)) (da_cons (dn_var (i := 1)) da_nil))) (da_cons (dn_sub_ix (dn_var (i := 0)) dn_int (fun _ _ => rfl)) da_nil)))))
abbrev simage : Stmt := topS 51
abbrev Nimage : List Str := ["tower", "images", "vector", "size", "half", "low", "high", "root"]
theorem scimage : FnScope Nimage ["tower", "images", "vector"] (defScope simage) := ⟨rfl, rfl, rfl, by decide +kernel, rfl, by decide +kernel, by decide +kernel⟩
def denimage (cpadded : List D → Option D) (cimage : List D → Option D) (cwidened : List D → Option D) (celement_product : List D → Option D) (celement_sum : List D → Option D) : List Sl → Option Out :=
  (sSeq (sSet 3 (d2 fShl (dK (.int 1)) (dCall fLen (ac (dV 0) a0))))
  (sSeq (sSet 4 (d2 fDiv (dCall fLen (ac (dV 2) a0)) (dK (.int 2))))
  (sSeq (sIf (dAsB (d2 fEq (dV 4) (dK (.int 0))))
    (sRet (dTup (ac (dCall cpadded (ac (dV 2) (ac (dV 3) a0))) (ac (dK (.int 1)) a0))))
    sNext)
  (sSeq (sSet 5 (dCall cimage (ac (dV 0) (ac (dV 1) (ac (dSl (dV 2) p0 (p1 (dV 4))) a0)))))
  (sSeq (sIf (bNot (dTru (dCall fAny (ac (dSl (dV 2) (p1 (dV 4)) p0) a0))))
    (sRet (dV 5))
    sNext)
  (sSeq (sSet 6 (dCall cimage (ac (dV 0) (ac (dV 1) (ac (dSl (dV 2) (p1 (dV 4)) p0) a0)))))
  (sSeq (sSet 7 (dCall cwidened (ac (d2 fIx (dV 1) (d2 fSub (d1 fBits (dV 4)) (dK (.int 1)))) (ac (dV 3) a0))))
  (sRet (dCall celement_sum (ac (dV 5) (ac (dCall celement_product (ac (dV 0) (ac (dV 6) (ac (dV 7) a0)))) a0)))))))))))
theorem okimage {f : Addr} {fd : FuncData} {k : Nat} (F : Fun K "image" "image" simage f fd) (M : Names mg) {cpadded : List D → Option D} {cimage : List D → Option D} {cwidened : List D → Option D} {celement_product : List D → Option D} {celement_sum : List D → Option D} (Gpadded : Cal P w K mg base k "padded" ["vector", "size"] (SpD C cpadded)) (Gimage : Cal P w K mg base k "image" ["tower", "images", "vector"] (SpD C cimage)) (Gwidened : Cal P w K mg base k "widened" ["element", "size"] (SpD C cwidened)) (Gelement_product : Cal P w K mg base k "element_product" ["tower", "one", "other"] (SpD C celement_product)) (Gelement_sum : Cal P w K mg base k "element_sum" ["one", "other"] (SpD C celement_sum)) : FnOk P w K mg base CX0 (k + 1) f fd ["tower", "images", "vector"] (SpD C (runD 3 8 (denimage cpadded cimage cwidened celement_product celement_sum))) :=
  fn_den F scimage fun cdv A outer s H E hr => (ds_cons (ds_set (i := 3) scimage.nd (dn_shl dn_int (dn_callB is_len call_len_seq (by rfl) M.len PySem.boot_len (da_cons (dn_var (i := 0)) da_nil))))
  (ds_cons (ds_set (i := 4) scimage.nd (dn_div (dn_callB is_len call_len_seq (by rfl) M.len PySem.boot_len (da_cons (dn_var (i := 2)) da_nil)) dn_int))
  (ds_cons (ds_if (dt_eq hr.units (dn_var (i := 4)) dn_int)
    (ds_one (ds_ret (dn_tup (da_cons (dn_call Gpadded.ok hr (by rfl) Gpadded.m Gpadded.kp Gpadded.b pass0 (da_cons (dn_var (i := 2)) (da_cons (dn_var (i := 3)) da_nil))) (da_cons dn_int da_nil)))))
    ds_nil)
  (ds_cons (ds_set (i := 5) scimage.nd (dn_call Gimage.ok hr (by rfl) Gimage.m Gimage.kp Gimage.b pass0 (da_cons (dn_var (i := 0)) (da_cons (dn_var (i := 1)) (da_cons (dn_slice (dn_var (i := 2)) dp_none (dp_some (dn_var (i := 4)))) da_nil)))))
  (ds_cons (ds_if (dt_not (dt_truth (dn_callB (is_any (K := K)) (cr_anyA rfl) (by rfl) M.any (by decide +kernel) (da_cons (dn_slice (dn_var (i := 2)) (dp_some (dn_var (i := 4))) dp_none) da_nil))))
    (ds_one (ds_ret (dn_var (i := 5))))
    ds_nil)
  (ds_cons (ds_set (i := 6) scimage.nd (dn_call Gimage.ok hr (by rfl) Gimage.m Gimage.kp Gimage.b pass0 (da_cons (dn_var (i := 0)) (da_cons (dn_var (i := 1)) (da_cons (dn_slice (dn_var (i := 2)) (dp_some (dn_var (i := 4))) dp_none) da_nil)))))
  (ds_cons (ds_set (i := 7) scimage.nd (dn_call Gwidened.ok hr (by rfl) Gwidened.m Gwidened.kp Gwidened.b pass0 (da_cons (dn_sub_ix (dn_var (i := 1)) (dn_sub (dn_bits (dn_var (i := 4))) dn_int) (fun _ _ => rfl)) (da_cons (dn_var (i := 3)) da_nil))))
  (ds_one (ds_ret (dn_call Gelement_sum.ok hr (by rfl) Gelement_sum.m Gelement_sum.kp Gelement_sum.b pass0 (da_cons (dn_var (i := 5)) (da_cons (dn_call Gelement_product.ok hr (by rfl) Gelement_product.m Gelement_product.kp Gelement_product.b pass0 (da_cons (dn_var (i := 0)) (da_cons (dn_var (i := 6)) (da_cons (dn_var (i := 7)) da_nil)))) da_nil))))))))))))
abbrev simage_of_element : Stmt := topS 52
abbrev Nimage_of_element : List Str := ["tower", "images", "element", "vector", "scale"]
theorem scimage_of_element : FnScope Nimage_of_element ["tower", "images", "element"] (defScope simage_of_element) := ⟨rfl, rfl, rfl, by decide +kernel, rfl, by decide +kernel, by decide +kernel⟩
def denimage_of_element (cimage : List D → Option D) (clowest : List D → Option D) : List Sl → Option Out :=
  (sSeq (sAsg (dCall cimage (ac (dV 0) (ac (dV 1) (ac (d2 fIx (dV 2) (dK (.int 0))) a0)))) (gTu 2 (gcons (gN 3) (gcons (gN 4) gnil))))
  (sRet (dCall clowest (ac (dV 3) (ac (d2 fMul (dV 4) (d2 fIx (dV 2) (dK (.int 1)))) a0)))))
theorem okimage_of_element {f : Addr} {fd : FuncData} {k : Nat} (F : Fun K "image_of_element" "image_of_element" simage_of_element f fd) (M : Names mg) {cimage : List D → Option D} {clowest : List D → Option D} (Gimage : Cal P w K mg base k "image" ["tower", "images", "vector"] (SpD C cimage)) (Glowest : Cal P w K mg base k "lowest" ["vector", "scale"] (SpD C clowest)) : FnOk P w K mg base CX0 (k + 1) f fd ["tower", "images", "element"] (SpD C (runD 3 5 (denimage_of_element cimage clowest))) :=
  fn_den F scimage_of_element fun cdv A outer s H E hr => (ds_cons (ds_asg (dn_call Gimage.ok hr (by rfl) Gimage.m Gimage.kp Gimage.b pass0 (da_cons (dn_var (i := 0)) (da_cons (dn_var (i := 1)) (da_cons (dn_sub_ix (dn_var (i := 2)) dn_int (fun _ _ => rfl)) da_nil)))) (dg_tup rfl (dg_cons (dg_name (i := 3) scimage_of_element.nd) (dg_cons (dg_name (i := 4) scimage_of_element.nd) dg_nil))))
  (ds_one (ds_ret (dn_call Glowest.ok hr (by rfl) Glowest.m Glowest.kp Glowest.b pass0 (da_cons (dn_var (i := 3)) (da_cons (dn_mul (dn_var (i := 4)) (dn_sub_ix (dn_var (i := 2)) dn_int (fun _ _ => rfl))) da_nil))))))
abbrev sjoined : Stmt := topS 53
abbrev Njoined : List Str := ["tower", "other", "most", "images", "generator", "square", "root"]
theorem scjoined : FnScope Njoined ["tower", "other", "most"] (defScope sjoined) := ⟨rfl, rfl, rfl, by decide +kernel, rfl, by decide +kernel, by decide +kernel⟩
def denjoined (cimage : List D → Option D) (c_known_root : List D → Option D) (cadjoined : List D → Option D) : List Sl → Option Out :=
  (sSeq (sNew 3 a0)
  (sSeq (sFor (iSeq (dV 1)) (gN 4)
    (sSeq (sSet 5 (dBor 3 (dCall cimage (ac (dV 0) (ac (dV 3) (ac (dV 4) a0))))))
    (sSeq (sSet 6 (dCall c_known_root (ac (dV 0) (ac (dV 5) a0))))
    (sSeq (sIf (bAnd (dAsB (d2 fIsN (dV 6) (dK .non))) (dAsB (d2 (fB20 fun i j => decide (j ≤ i)) (dCall fLen (ac (dV 0) a0)) (dV 2))))
      (sRet (dK .non))
      sNext)
    (sSeq (sIf (dAsB (d2 fIsN (dV 6) (dK .non)))
      (sAsg (dCall cadjoined (ac (dV 0) (ac (dV 5) a0))) (gTu 2 (gcons (gN 0) (gcons (gN 6) gnil))))
      sNext)
    (sApp 3 (dV 6)))))))
  (sFrz 3 (sRet (dTup (ac (dV 0) (ac (dV 3) a0)))))))
theorem okjoined {f : Addr} {fd : FuncData} {k : Nat} (F : Fun K "joined" "joined" sjoined f fd) (M : Names mg) {cimage : List D → Option D} {c_known_root : List D → Option D} {cadjoined : List D → Option D} (Gimage : Cal P w K mg base k "image" ["tower", "images", "vector"] (SpD C cimage)) (G_known_root : Cal P w K mg base k "_known_root" ["tower", "square"] (SpD C c_known_root)) (Gadjoined : Cal P w K mg base k "adjoined" ["tower", "square"] (SpD C cadjoined)) : FnOk P w K mg base CX0 (k + 1) f fd ["tower", "other", "most"] (SpD C (runD 3 7 (denjoined cimage c_known_root cadjoined))) :=
  fn_den F scjoined fun cdv A outer s H E hr => (ds_cons (ds_new (i := 3) scjoined.nd da_nil)
  (ds_cons (ds_for PassesOwn.never rfl (di_seq (dn_var (i := 1))) (dg_name (i := 4) scjoined.nd)
    (ds_cons (ds_set (i := 5) scjoined.nd (dn_bor (i := 3) (dn_call Gimage.ok hr (by rfl) Gimage.m Gimage.kp Gimage.b pass0 (da_cons (dn_var (i := 0)) (da_cons (dn_var (i := 3)) (da_cons (dn_var (i := 4)) da_nil))))))
    (ds_cons (ds_set (i := 6) scjoined.nd (dn_call G_known_root.ok hr (by rfl) G_known_root.m G_known_root.kp G_known_root.b pass0 (da_cons (dn_var (i := 0)) (da_cons (dn_var (i := 5)) da_nil))))
    (ds_cons (ds_if (PW.pt (dw_and (dt_isN (dn_var (i := 6))) (dw_and1 (dt_ge (dn_callB is_len call_len_seq (by rfl) M.len PySem.boot_len (da_cons (dn_var (i := 0)) da_nil)) (dn_var (i := 2))))))
      (ds_one (ds_ret dn_non))
      ds_nil)
    (ds_cons (ds_if (dt_isN (dn_var (i := 6)))
      (ds_one (ds_asg (dn_call Gadjoined.ok hr (by rfl) Gadjoined.m Gadjoined.kp Gadjoined.b pass0 (da_cons (dn_var (i := 0)) (da_cons (dn_var (i := 5)) da_nil))) (dg_tup rfl (dg_cons (dg_name (i := 0) scjoined.nd) (dg_cons (dg_name (i := 6) scjoined.nd) dg_nil)))))
      ds_nil)
    (ds_one (ds_app (i := 3) (dn_var (i := 6)) (hps := fun h => ps_expr h) (hpe := fun h g => pe_bm PySem.F.plainAttrs_list PySem.F.slot_list_append PySem.F.type_list_append mt_append h g))))))))
  (dss_frz (i := 3) (ds_one (ds_ret (dn_tup (da_cons (dn_var (i := 0)) (da_cons (dn_var (i := 3)) da_nil))))))))
abbrev s_known_root : Stmt := topS 54
abbrev N_known_root : List Str := ["tower", "square", "vector", "scale", "size", "k", "generator"]
theorem sc_known_root : FnScope N_known_root ["tower", "square"] (defScope s_known_root) := ⟨rfl, rfl, rfl, by decide +kernel, rfl, by decide +kernel, by decide +kernel⟩
def den_known_root (cpadded : List D → Option D) (croot_in : List D → Option D) : List Sl → Option Out :=
  (sSeq (sAsg (dV 1) (gTu 2 (gcons (gN 2) (gcons (gN 3) gnil))))
  (sSeq (sSet 4 (dCall fLen (ac (dV 2) a0)))
  (sSeq (sIf (dAsB (d2 fEq (dV 3) (dK (.int 1))))
    (sFor (iEnumD (ac (dV 0) a0)) (gTu 2 (gcons (gN 5) (gcons (gN 6) gnil)))
      (sIf (dAsB (d2 fEq (dCall cpadded (ac (dV 6) (ac (dV 4) a0))) (dV 2)))
        (sRet (dTup (ac (dCall cpadded (ac (d2 fAdd (d2 fMul (dTup (ac (dK (.int 0)) a0)) (d2 fShl (dK (.int 1)) (dV 5))) (dTup (ac (dK (.int 1)) a0))) (ac (dV 4) a0))) (ac (dK (.int 1)) a0))))
        sNext))
    sNext)
  (sRet (dCall croot_in (ac (dV 0) (ac (dV 1) a0)))))))
theorem ok_known_root {f : Addr} {fd : FuncData} {k : Nat} (F : Fun K "_known_root" "_known_root" s_known_root f fd) (M : Names mg) {cpadded : List D → Option D} {croot_in : List D → Option D} (Gpadded : Cal P w K mg base k "padded" ["vector", "size"] (SpD C cpadded)) (Groot_in : Cal P w K mg base k "root_in" ["tower", "square"] (SpD C croot_in)) : FnOk P w K mg base CX0 (k + 1) f fd ["tower", "square"] (SpD C (runD 2 7 (den_known_root cpadded croot_in))) :=
  fn_den F sc_known_root fun cdv A outer s H E hr => (ds_cons (ds_asg (dn_var (i := 1)) (dg_tup rfl (dg_cons (dg_name (i := 2) sc_known_root.nd) (dg_cons (dg_name (i := 3) sc_known_root.nd) dg_nil))))
  (ds_cons (ds_set (i := 4) sc_known_root.nd (dn_callB is_len call_len_seq (by rfl) M.len PySem.boot_len (da_cons (dn_var (i := 2)) da_nil)))
  (ds_cons (ds_if (dt_eq hr.units (dn_var (i := 3)) dn_int)
    (ds_one (ds_for PassesOwn.never rfl (di_enum (by rfl) M.enumerate (da_cons (dn_var (i := 0)) da_nil)) (dg_tup rfl (dg_cons (dg_name (i := 5) sc_known_root.nd) (dg_cons (dg_name (i := 6) sc_known_root.nd) dg_nil)))
      (ds_one (ds_if (dt_eq hr.units (dn_call Gpadded.ok hr (by rfl) Gpadded.m Gpadded.kp Gpadded.b pass0 (da_cons (dn_var (i := 6)) (da_cons (dn_var (i := 4)) da_nil))) (dn_var (i := 2)))
        (ds_one (ds_ret (dn_tup (da_cons (dn_call Gpadded.ok hr (by rfl) Gpadded.m Gpadded.kp Gpadded.b pass0 (da_cons (dn_add (dn_mul (dn_tup (da_cons dn_int da_nil)) (dn_shl dn_int (dn_var (i := 5)))) (dn_tup (da_cons dn_int da_nil))) (da_cons (dn_var (i := 4)) da_nil))) (da_cons dn_int da_nil)))))
        ds_nil))))
    ds_nil)
  (ds_one (ds_ret (dn_call Groot_in.ok hr (by rfl) Groot_in.m Groot_in.kp Groot_in.b pass0 (da_cons (dn_var (i := 0)) (da_cons (dn_var (i := 1)) da_nil))))))))
abbrev sroot_in : Stmt := topS 55
abbrev Nroot_in : List Str := ["tower", "square", "vector", "scale", "found"]
theorem scroot_in : FnScope Nroot_in ["tower", "square"] (defScope sroot_in) := ⟨rfl, rfl, rfl, by decide +kernel, rfl, by decide +kernel, by decide +kernel⟩
def denroot_in (ctimes : List D → Option D) (csquare_root : List D → Option D) (clowest : List D → Option D) (cpositive : List D → Option D) : List Sl → Option Out :=
  (sSeq (sAsg (dV 1) (gTu 2 (gcons (gN 2) (gcons (gN 3) gnil))))
  (sSeq (sSet 4 (dCall csquare_root (ac (dV 0) (ac (dCall ctimes (ac (dV 2) (ac (dV 3) a0))) a0))))
  (sSeq (sIf (dAsB (d2 fIsN (dV 4) (dK .non)))
    (sRet (dK .non))
    sNext)
  (sRet (dCall cpositive (ac (dV 0) (ac (dCall clowest (ac (d2 fIx (dV 4) (dK (.int 0))) (ac (d2 fMul (d2 fIx (dV 4) (dK (.int 1))) (dV 3)) a0))) a0)))))))
theorem okroot_in {f : Addr} {fd : FuncData} {k : Nat} (F : Fun K "root_in" "root_in" sroot_in f fd) (M : Names mg) {ctimes : List D → Option D} {csquare_root : List D → Option D} {clowest : List D → Option D} {cpositive : List D → Option D} (Gtimes : Cal P w K mg base k "times" ["vector", "factor"] (SpD C ctimes)) (Gsquare_root : Cal P w K mg base k "square_root" ["tower", "vector"] (SpD C csquare_root)) (Glowest : Cal P w K mg base k "lowest" ["vector", "scale"] (SpD C clowest)) (Gpositive : Cal P w K mg base k "positive" ["tower", "element"] (SpD C cpositive)) : FnOk P w K mg base CX0 (k + 1) f fd ["tower", "square"] (SpD C (runD 2 5 (denroot_in ctimes csquare_root clowest cpositive))) :=
  fn_den F scroot_in fun cdv A outer s H E hr => (ds_cons (ds_asg (dn_var (i := 1)) (dg_tup rfl (dg_cons (dg_name (i := 2) scroot_in.nd) (dg_cons (dg_name (i := 3) scroot_in.nd) dg_nil))))
  (ds_cons (ds_set (i := 4) scroot_in.nd (dn_call Gsquare_root.ok hr (by rfl) Gsquare_root.m Gsquare_root.kp Gsquare_root.b pass0 (da_cons (dn_var (i := 0)) (da_cons (dn_call Gtimes.ok hr (by rfl) Gtimes.m Gtimes.kp Gtimes.b pass0 (da_cons (dn_var (i := 2)) (da_cons (dn_var (i := 3)) da_nil))) da_nil))))
  (ds_cons (ds_if (dt_isN (dn_var (i := 4)))
    (ds_one (ds_ret dn_non))
    ds_nil)
  (ds_one (ds_ret (dn_call Gpositive.ok hr (by rfl) Gpositive.m Gpositive.kp Gpositive.b pass0 (da_cons (dn_var (i := 0)) (da_cons (dn_call Glowest.ok hr (by rfl) Glowest.m Glowest.kp Glowest.b pass0 (da_cons (dn_sub_ix (dn_var (i := 4)) dn_int (fun _ _ => rfl)) (da_cons (dn_mul (dn_sub_ix (dn_var (i := 4)) dn_int (fun _ _ => rfl)) (dn_var (i := 3))) da_nil))) da_nil))))))))
end
end K31

set_option maxHeartbeats 4000000
namespace K31
open PySem PySem.Spec PyProof.Rows L2 KG DN
section
variable {P : Program} {w : World} {K : PySem.W.Frag} {mg : Str → Option Value} {base : Heap} {C : Addr}
abbrev sprimitive : Stmt := topS 57
abbrev Nprimitive : List Str := ["polynomial", "common", "n"]
theorem scprimitive : FnScope Nprimitive ["polynomial"] (defScope sprimitive) := ⟨rfl, rfl, rfl, by decide +kernel, rfl, by decide +kernel, by decide +kernel⟩
def denprimitive : List Sl → Option Out :=
  (sSeq (sSet 1 (dK (.int 0)))
  (sSeq (sFor (iSeq (dV 0)) (gN 2)
    (sSet 1 (dCall fGcd (ac (dV 1) (ac (dV 2) a0)))))
  (sSeq (sIf (dAsB (d2 fLtA (d2 fIx (dV 0) (d1 (fI1 fun i => -i) (dK (.int 1)))) (dK (.int 0))))
    (sSet 1 (d1 (fI1 fun i => -i) (dV 1)))
    sNext)
  (sRet (dCall fTuple (ac (dLc (iSeq (dV 0)) (gN 2) bYes (d2 fDiv (dV 2) (dV 1)) [2]) a0))))))
theorem okprimitive {f : Addr} {fd : FuncData} {k : Nat} (F : Fun K "primitive" "primitive" sprimitive f fd) (M : Names mg) : FnOk P w K mg base CX0 (k + 1) f fd ["polynomial"] (SpD C (runD 1 3 (denprimitive))) :=
  fn_den F scprimitive fun cdv A outer s H E hr => (ds_cons (ds_set (i := 1) scprimitive.nd dn_int)
  (ds_cons (ds_for PassesOwn.never rfl (di_seq (dn_var (i := 0))) (dg_name (i := 2) scprimitive.nd)
    (ds_one (ds_set (i := 1) scprimitive.nd (dn_callBfun is_gcd cr_gcd (by rfl) M.gcd (da_cons (dn_var (i := 1)) (da_cons (dn_var (i := 2)) da_nil))))))
  (ds_cons (ds_if (dt_ltA hr.units0 (dn_sub_ix (dn_var (i := 0)) (dn_neg dn_int) (fun _ _ => rfl)) dn_int)
    (ds_one (ds_set (i := 1) scprimitive.nd (dn_neg (dn_var (i := 1)))))
    ds_nil)
  (ds_one (ds_ret (dn_callTy (is_tuple (K := K)) call_tuple_of (by rfl) M.tuple (by decide +kernel) (da_cons (dn_lc (own := [("n", 2)]) (by rfl) scprimitive.nd (di_seq (dn_var (i := 0))) (blkOk_by (own := [("n", 2)]) (N := Nprimitive) (sc := defScope sprimitive) (by decide +kernel)) (fun _ _ _ _ _ => (dg_name (i := 2) scprimitive.nd)) (fun _ _ _ _ _ => dts_nil) (fun _ _ _ _ _ => (dn_div (dn_var (i := 2)) (dn_var (i := 1))))) da_nil)))))))
abbrev scharacteristic : Stmt := topS 60
abbrev Ncharacteristic : List Str := ["tower", "vector", "base", "terms", "generator", "half", "lows", "highs", "term", "low", "high"]
theorem sccharacteristic : FnScope Ncharacteristic ["tower", "vector", "base"] (defScope scharacteristic) := ⟨rfl, rfl, rfl, by decide +kernel, rfl, by decide +kernel, by decide +kernel⟩
def dencharacteristic (cpadded : List D → Option D) (ctimes : List D → Option D) (c_polynomial_square : List D → Option D) (cby_generator : List D → Option D) (cminus : List D → Option D) : List Sl → Option Out :=
  (sSeq (sSet 3 (dLst (ac (dCall ctimes (ac (dV 1) (ac (d1 (fI1 fun i => -i) (dK (.int 1))) a0))) (ac (dCall cpadded (ac (dTup (ac (dK (.int 1)) a0)) (ac (dCall fLen (ac (dV 1) a0)) a0))) a0))))
  (sSeq (sFor (iRevD (dSl (dV 0) (p1 (dV 2)) p0)) (gN 4)
    (sSeq (sSet 5 (dCall fLen (ac (dV 4) a0)))
    (sSeq (sSet 6 (dCall c_polynomial_square (ac (dV 0) (ac (dLc (iSeq (dV 3)) (gN 8) bYes (dSl (dV 8) p0 (p1 (dV 5))) [8]) a0))))
    (sSeq (sSet 7 (dCall c_polynomial_square (ac (dV 0) (ac (dLc (iSeq (dV 3)) (gN 8) bYes (dSl (dV 8) (p1 (dV 5)) p0) [8]) a0))))
    (sSet 3 (dLc (iZipD (ac (dV 6) (ac (dV 7) a0))) (gTu 2 (gcons (gN 9) (gcons (gN 10) gnil))) bYes (dCall cminus (ac (dV 9) (ac (dCall cby_generator (ac (dV 0) (ac (dV 4) (ac (dV 10) a0)))) a0))) [9, 10]))))))
  (sRet (dV 3))))
theorem okcharacteristic {f : Addr} {fd : FuncData} {k : Nat} (F : Fun K "characteristic" "characteristic" scharacteristic f fd) (M : Names mg) {cpadded : List D → Option D} {ctimes : List D → Option D} {c_polynomial_square : List D → Option D} {cby_generator : List D → Option D} {cminus : List D → Option D} (Gpadded : Cal P w K mg base k "padded" ["vector", "size"] (SpD C cpadded)) (Gtimes : Cal P w K mg base k "times" ["vector", "factor"] (SpD C ctimes)) (G_polynomial_square : Cal P w K mg base k "_polynomial_square" ["tower", "terms"] (SpD C c_polynomial_square)) (Gby_generator : Cal P w K mg base k "by_generator" ["tower", "generator", "vector"] (SpD C cby_generator)) (Gminus : Cal P w K mg base k "minus" ["one", "other"] (SpD C cminus)) : FnOk P w K mg base CX0 (k + 1) f fd ["tower", "vector", "base"] (SpD C (runD 3 11 (dencharacteristic cpadded ctimes c_polynomial_square cby_generator cminus))) :=
  fn_den F sccharacteristic fun cdv A outer s H E hr => (ds_cons (ds_set (i := 3) sccharacteristic.nd (dn_lst (da_cons (dn_call Gtimes.ok hr (by rfl) Gtimes.m Gtimes.kp Gtimes.b pass0 (da_cons (dn_var (i := 1)) (da_cons (dn_neg dn_int) da_nil))) (da_cons (dn_call Gpadded.ok hr (by rfl) Gpadded.m Gpadded.kp Gpadded.b pass0 (da_cons (dn_tup (da_cons dn_int da_nil)) (da_cons (dn_callB is_len call_len_seq (by rfl) M.len PySem.boot_len (da_cons (dn_var (i := 1)) da_nil)) da_nil))) da_nil))))
  (ds_cons (ds_for PassesOwn.never rfl (di_rev (by rfl) M.reversed (dn_slice (dn_var (i := 0)) (dp_some (dn_var (i := 2))) dp_none)) (dg_name (i := 4) sccharacteristic.nd)
    (ds_cons (ds_set (i := 5) sccharacteristic.nd (dn_callB is_len call_len_seq (by rfl) M.len PySem.boot_len (da_cons (dn_var (i := 4)) da_nil)))
    (ds_cons (ds_set (i := 6) sccharacteristic.nd (dn_call G_polynomial_square.ok hr (by rfl) G_polynomial_square.m G_polynomial_square.kp G_polynomial_square.b pass0 (da_cons (dn_var (i := 0)) (da_cons (dn_lc (own := [("term", 8)]) (by rfl) sccharacteristic.nd (di_seq (dn_var (i := 3))) (blkOk_by (own := [("term", 8)]) (N := Ncharacteristic) (sc := defScope scharacteristic) (by decide +kernel)) (fun _ _ _ _ _ => (dg_name (i := 8) sccharacteristic.nd)) (fun _ _ _ _ _ => dts_nil) (fun _ _ _ _ _ => (dn_slice (dn_var (i := 8)) dp_none (dp_some (dn_var (i := 5)))))) da_nil))))
    (ds_cons (ds_set (i := 7) sccharacteristic.nd (dn_call G_polynomial_square.ok hr (by rfl) G_polynomial_square.m G_polynomial_square.kp G_polynomial_square.b pass0 (da_cons (dn_var (i := 0)) (da_cons (dn_lc (own := [("term", 8)]) (by rfl) sccharacteristic.nd (di_seq (dn_var (i := 3))) (blkOk_by (own := [("term", 8)]) (N := Ncharacteristic) (sc := defScope scharacteristic) (by decide +kernel)) (fun _ _ _ _ _ => (dg_name (i := 8) sccharacteristic.nd)) (fun _ _ _ _ _ => dts_nil) (fun _ _ _ _ _ => (dn_slice (dn_var (i := 8)) (dp_some (dn_var (i := 5))) dp_none))) da_nil))))
    (ds_one (ds_setLc (own := [("low", 9), ("high", 10)]) (i := 3) (by rfl) sccharacteristic.nd rfl rfl (sw_true rfl rfl rfl (by decide +kernel)) (di_zip (by rfl) M.zip (da_cons (dn_var (i := 6)) (da_cons (dn_var (i := 7)) da_nil))) (blkOk_by (own := [("low", 9), ("high", 10)]) (N := Ncharacteristic) (sc := defScope scharacteristic) (by decide +kernel)) (fun _ _ _ _ _ => (dg_tup rfl (dg_cons (dg_name (i := 9) sccharacteristic.nd) (dg_cons (dg_name (i := 10) sccharacteristic.nd) dg_nil)))) (fun _ _ _ _ _ => dts_nil) (fun _ _ _ _ _ => (dn_call Gminus.ok hr (by rfl) Gminus.m Gminus.kp Gminus.b pass0 (da_cons (dn_var (i := 9)) (da_cons (dn_call Gby_generator.ok hr (by rfl) Gby_generator.m Gby_generator.kp Gby_generator.b pass0 (da_cons (dn_var (i := 0)) (da_cons (dn_var (i := 4)) (da_cons (dn_var (i := 10)) da_nil)))) da_nil))))))))))
  (ds_one (ds_ret (dn_var (i := 3))))))
abbrev s_polynomial_square : Stmt := topS 61
abbrev N_polynomial_square : List Str := ["tower", "terms", "zero", "found", "k", "total", "i"]
theorem sc_polynomial_square : FnScope N_polynomial_square ["tower", "terms"] (defScope s_polynomial_square) := ⟨rfl, rfl, rfl, by decide +kernel, rfl, by decide +kernel, by decide +kernel⟩
def den_polynomial_square (cmultiplied : List D → Option D) (ctimes : List D → Option D) (cplus : List D → Option D) : List Sl → Option Out :=
  (sSeq (sSet 2 (d2 fMul (dTup (ac (dK (.int 0)) a0)) (dCall fLen (ac (d2 fIx (dV 1) (dK (.int 0))) a0))))
  (sSeq (sNew 3 a0)
  (sSeq (sFor (iRng r1D (ac (d2 fSub (d2 fMul (dK (.int 2)) (dCall fLen (ac (dV 1) a0))) (dK (.int 1))) a0)) (gN 4)
    (sSeq (sSet 5 (dV 2))
    (sSeq (sFor (iRng r2D (ac (dCall fMax (ac (dK (.int 0)) (ac (d2 fSub (d2 fAdd (dV 4) (dK (.int 1))) (dCall fLen (ac (dV 1) a0))) a0))) (ac (d2 fDiv (d2 fAdd (dV 4) (dK (.int 1))) (dK (.int 2))) a0))) (gN 6)
      (sSet 5 (dCall cplus (ac (dV 5) (ac (dCall ctimes (ac (dCall cmultiplied (ac (dV 0) (ac (d2 fIx (dV 1) (dV 6)) (ac (d2 fIx (dV 1) (d2 fSub (dV 4) (dV 6))) a0)))) (ac (dK (.int 2)) a0))) a0)))))
    (sSeq (sIf (dAsB (d2 fEq (d2 fMod (dV 4) (dK (.int 2))) (dK (.int 0))))
      (sSet 5 (dCall cplus (ac (dV 5) (ac (dCall cmultiplied (ac (dV 0) (ac (d2 fIx (dV 1) (d2 fDiv (dV 4) (dK (.int 2)))) (ac (d2 fIx (dV 1) (d2 fDiv (dV 4) (dK (.int 2)))) a0)))) a0))))
      sNext)
    (sApp 3 (dV 5))))))
  (sFrz 3 (sRet (dV 3))))))
theorem ok_polynomial_square {f : Addr} {fd : FuncData} {k : Nat} (F : Fun K "_polynomial_square" "_polynomial_square" s_polynomial_square f fd) (M : Names mg) {cmultiplied : List D → Option D} {ctimes : List D → Option D} {cplus : List D → Option D} (Gmultiplied : Cal P w K mg base k "multiplied" ["tower", "one", "other"] (SpD C cmultiplied)) (Gtimes : Cal P w K mg base k "times" ["vector", "factor"] (SpD C ctimes)) (Gplus : Cal P w K mg base k "plus" ["one", "other"] (SpD C cplus)) : FnOk P w K mg base CX0 (k + 1) f fd ["tower", "terms"] (SpD C (runD 2 7 (den_polynomial_square cmultiplied ctimes cplus))) :=
  fn_den F sc_polynomial_square fun cdv A outer s H E hr => (ds_cons (ds_set (i := 2) sc_polynomial_square.nd (dn_mul (dn_tup (da_cons dn_int da_nil)) (dn_callB is_len call_len_seq (by rfl) M.len PySem.boot_len (da_cons (dn_sub_ix (dn_var (i := 1)) dn_int (fun _ _ => rfl)) da_nil))))
  (ds_cons (ds_new (i := 3) sc_polynomial_square.nd da_nil)
  (ds_cons (ds_for PassesOwn.never rfl (di_range1 (by rfl) M.range (da_cons (dn_sub (dn_mul dn_int (dn_callB is_len call_len_seq (by rfl) M.len PySem.boot_len (da_cons (dn_var (i := 1)) da_nil))) dn_int) da_nil)) (dg_name (i := 4) sc_polynomial_square.nd)
    (ds_cons (ds_set (i := 5) sc_polynomial_square.nd (dn_var (i := 2)))
    (ds_cons (ds_for PassesOwn.never rfl (di_range2 (by rfl) M.range (da_cons (dn_callB (is_max (K := K)) ((call_max2 rfl).or (cr_max rfl)) (by rfl) M.max (by decide +kernel) (da_cons dn_int (da_cons (dn_sub (dn_add (dn_var (i := 4)) dn_int) (dn_callB is_len call_len_seq (by rfl) M.len PySem.boot_len (da_cons (dn_var (i := 1)) da_nil))) da_nil))) (da_cons (dn_div (dn_add (dn_var (i := 4)) dn_int) dn_int) da_nil))) (dg_name (i := 6) sc_polynomial_square.nd)
      (ds_one (ds_set (i := 5) sc_polynomial_square.nd (dn_call Gplus.ok hr (by rfl) Gplus.m Gplus.kp Gplus.b pass0 (da_cons (dn_var (i := 5)) (da_cons (dn_call Gtimes.ok hr (by rfl) Gtimes.m Gtimes.kp Gtimes.b pass0 (da_cons (dn_call Gmultiplied.ok hr (by rfl) Gmultiplied.m Gmultiplied.kp Gmultiplied.b pass0 (da_cons (dn_var (i := 0)) (da_cons (dn_sub_ix (dn_var (i := 1)) (dn_var (i := 6)) (fun _ _ => rfl)) (da_cons (dn_sub_ix (dn_var (i := 1)) (dn_sub (dn_var (i := 4)) (dn_var (i := 6))) (fun _ _ => rfl)) da_nil)))) (da_cons dn_int da_nil))) da_nil))))))
    (ds_cons (ds_if (dt_eq hr.units (dn_mod (dn_var (i := 4)) dn_int) dn_int)
      (ds_one (ds_set (i := 5) sc_polynomial_square.nd (dn_call Gplus.ok hr (by rfl) Gplus.m Gplus.kp Gplus.b pass0 (da_cons (dn_var (i := 5)) (da_cons (dn_call Gmultiplied.ok hr (by rfl) Gmultiplied.m Gmultiplied.kp Gmultiplied.b pass0 (da_cons (dn_var (i := 0)) (da_cons (dn_sub_ix (dn_var (i := 1)) (dn_div (dn_var (i := 4)) dn_int) (fun _ _ => rfl)) (da_cons (dn_sub_ix (dn_var (i := 1)) (dn_div (dn_var (i := 4)) dn_int) (fun _ _ => rfl)) da_nil)))) da_nil)))))
      ds_nil)
    (ds_one (ds_app (i := 3) (dn_var (i := 5)) (hps := fun h => ps_expr h) (hpe := fun h g => pe_bm PySem.F.plainAttrs_list PySem.F.slot_list_append PySem.F.type_list_append mt_append h g)))))))
  (dss_frz (i := 3) (ds_one (ds_ret (dn_var (i := 3))))))))
abbrev s_polynomial_root : Stmt := topS 62
abbrev N_polynomial_root : List Str := ["tower", "terms", "count", "falling", "k", "rest", "i"]
theorem sc_polynomial_root : FnScope N_polynomial_root ["tower", "terms"] (defScope s_polynomial_root) := ⟨rfl, rfl, rfl, by decide +kernel, rfl, by decide +kernel, by decide +kernel⟩
def den_polynomial_root (celement_product : List D → Option D) (celement_difference : List D → Option D) (clowest : List D → Option D) : List Sl → Option Out :=
  (sSeq (sSet 2 (dCall fLen (ac (dV 1) a0)))
  (sSeq (sIf (dAsB (d2 fEq (d2 fMod (dV 2) (dK (.int 2))) (dK (.int 0))))
    (sRet (dK .non))
    sNext)
  (sSeq (sNew 3 (ac (d2 fIx (dV 1) (d1 (fI1 fun i => -i) (dK (.int 1)))) a0))
  (sSeq (sFor (iRng r2D (ac (dK (.int 1)) (ac (dV 2) a0))) (gN 4)
    (sSeq (sSet 5 (d2 fIx (dV 1) (d2 fSub (d2 fSub (dV 2) (dK (.int 1))) (dV 4))))
    (sSeq (sFor (iRng r2D (ac (dK (.int 1)) (ac (dCall fMin (ac (dV 4) (ac (dLenO 3) a0))) a0))) (gN 6)
      (sIf (dAsB (d2 fLtA (d2 fSub (dV 4) (dV 6)) (dLenO 3)))
        (sSet 5 (dCall celement_difference (ac (dV 5) (ac (dCall celement_product (ac (dV 0) (ac (dIxO 3 (dV 6)) (ac (dIxO 3 (d2 fSub (dV 4) (dV 6))) a0)))) a0))))
        sNext))
    (sIf (dAsB (d2 (fB20 fun i j => decide (i ≤ j)) (dV 4) (d2 fDiv (dV 2) (dK (.int 2)))))
      (sApp 3 (dCall clowest (ac (d2 fIx (dV 5) (dK (.int 0))) (ac (d2 fMul (dK (.int 2)) (d2 fIx (dV 5) (dK (.int 1)))) a0))))
      (sIf (dTru (dCall fAny (ac (d2 fIx (dV 5) (dK (.int 0))) a0)))
        (sRet (dK .non))
        sNext)))))
  (sFrz 3 (sRet (d1 fBack (dV 3))))))))
theorem ok_polynomial_root {f : Addr} {fd : FuncData} {k : Nat} (F : Fun K "_polynomial_root" "_polynomial_root" s_polynomial_root f fd) (M : Names mg) {celement_product : List D → Option D} {celement_difference : List D → Option D} {clowest : List D → Option D} (Gelement_product : Cal P w K mg base k "element_product" ["tower", "one", "other"] (SpD C celement_product)) (Gelement_difference : Cal P w K mg base k "element_difference" ["one", "other"] (SpD C celement_difference)) (Glowest : Cal P w K mg base k "lowest" ["vector", "scale"] (SpD C clowest)) : FnOk P w K mg base CX0 (k + 1) f fd ["tower", "terms"] (SpD C (runD 2 7 (den_polynomial_root celement_product celement_difference clowest))) :=
  fn_den F sc_polynomial_root fun cdv A outer s H E hr => (ds_cons (ds_set (i := 2) sc_polynomial_root.nd (dn_callB is_len call_len_seq (by rfl) M.len PySem.boot_len (da_cons (dn_var (i := 1)) da_nil)))
  (ds_cons (ds_if (dt_eq hr.units (dn_mod (dn_var (i := 2)) dn_int) dn_int)
    (ds_one (ds_ret dn_non))
    ds_nil)
  (ds_cons (ds_new (i := 3) sc_polynomial_root.nd (da_cons (dn_sub_ix (dn_var (i := 1)) (dn_neg dn_int) (fun _ _ => rfl)) da_nil))
  (ds_cons (ds_for PassesOwn.never rfl (di_range2 (by rfl) M.range (da_cons dn_int (da_cons (dn_var (i := 2)) da_nil))) (dg_name (i := 4) sc_polynomial_root.nd)
    (ds_cons (ds_set (i := 5) sc_polynomial_root.nd (dn_sub_ix (dn_var (i := 1)) (dn_sub (dn_sub (dn_var (i := 2)) dn_int) (dn_var (i := 4))) (fun _ _ => rfl)))
    (ds_cons (ds_for PassesOwn.never rfl (di_range2 (by rfl) M.range (da_cons dn_int (da_cons (dn_callB (is_min (K := K)) ((call_min2 rfl).or (cr_min rfl)) (by rfl) M.min (by decide +kernel) (da_cons (dn_var (i := 4)) (da_cons (dn_lenO (i := 3) (by rfl) M.len) da_nil))) da_nil))) (dg_name (i := 6) sc_polynomial_root.nd)
      (ds_one (ds_if (dt_ltA hr.units0 (dn_sub (dn_var (i := 4)) (dn_var (i := 6))) (dn_lenO (i := 3) (by rfl) M.len))
        (ds_one (ds_set (i := 5) sc_polynomial_root.nd (dn_call Gelement_difference.ok hr (by rfl) Gelement_difference.m Gelement_difference.kp Gelement_difference.b pass0 (da_cons (dn_var (i := 5)) (da_cons (dn_call Gelement_product.ok hr (by rfl) Gelement_product.m Gelement_product.kp Gelement_product.b pass0 (da_cons (dn_var (i := 0)) (da_cons (dn_ixO (i := 3) (dn_var (i := 6)) (fun _ _ => rfl)) (da_cons (dn_ixO (i := 3) (dn_sub (dn_var (i := 4)) (dn_var (i := 6))) (fun _ _ => rfl)) da_nil)))) da_nil)))))
        ds_nil)))
    (ds_one (ds_if (dt_le (dn_var (i := 4)) (dn_div (dn_var (i := 2)) dn_int))
      (ds_one (ds_app (i := 3) (dn_call Glowest.ok hr (by rfl) Glowest.m Glowest.kp Glowest.b pass0 (da_cons (dn_sub_ix (dn_var (i := 5)) dn_int (fun _ _ => rfl)) (da_cons (dn_mul dn_int (dn_sub_ix (dn_var (i := 5)) dn_int (fun _ _ => rfl))) da_nil))) (hps := fun h => ps_expr h) (hpe := fun h g => pe_bm PySem.F.plainAttrs_list PySem.F.slot_list_append PySem.F.type_list_append mt_append h g)))
      (ds_one (ds_if (dt_truth (dn_callB (is_any (K := K)) (cr_anyA rfl) (by rfl) M.any (by decide +kernel) (da_cons (dn_sub_ix (dn_var (i := 5)) dn_int (fun _ _ => rfl)) da_nil)))
        (ds_one (ds_ret dn_non))
        ds_nil)))))))
  (dss_frz (i := 3) (ds_one (ds_ret (dn_back (dn_var (i := 3))))))))))
abbrev s_least_terms : Stmt := topS 63
abbrev N_least_terms : List Str := ["tower", "vector", "base", "terms", "root", "term"]
theorem sc_least_terms : FnScope N_least_terms ["tower", "vector", "base"] (defScope s_least_terms) := ⟨rfl, rfl, rfl, by decide +kernel, rfl, by decide +kernel, by decide +kernel⟩
def den_least_terms (ccharacteristic : List D → Option D) (c_polynomial_root : List D → Option D) : List Sl → Option Out :=
  (sSeq (sSet 3 (dLc (iSeq (dCall ccharacteristic (ac (dV 0) (ac (dV 1) (ac (dV 2) a0))))) (gN 5) bYes (dTup (ac (dV 5) (ac (dK (.int 1)) a0))) [5]))
  (whileD (dTru (dK (.bl true)))
    (sSeq (sSet 4 (dCall c_polynomial_root (ac (dV 0) (ac (dV 3) a0))))
    (sSeq (sIf (dAsB (d2 fIsN (dV 4) (dK .non)))
      (sRet (dV 3))
      sNext)
    (sSet 3 (dV 4)))) 1000))
theorem ok_least_terms {f : Addr} {fd : FuncData} {k : Nat} (F : Fun K "_least_terms" "_least_terms" s_least_terms f fd) (M : Names mg) {ccharacteristic : List D → Option D} {c_polynomial_root : List D → Option D} (Gcharacteristic : Cal P w K mg base k "characteristic" ["tower", "vector", "base"] (SpD C ccharacteristic)) (G_polynomial_root : Cal P w K mg base k "_polynomial_root" ["tower", "terms"] (SpD C c_polynomial_root)) : FnOk P w K mg base CX0 (k + 1) f fd ["tower", "vector", "base"] (SpD C (runD 3 6 (den_least_terms ccharacteristic c_polynomial_root))) :=
  fn_den F sc_least_terms fun cdv A outer s H E hr => (ds_cons (ds_setLc (own := [("term", 5)]) (i := 3) (by rfl) sc_least_terms.nd rfl rfl (sw_true rfl rfl rfl (by decide +kernel)) (di_seq (dn_call Gcharacteristic.ok hr (by rfl) Gcharacteristic.m Gcharacteristic.kp Gcharacteristic.b pass0 (da_cons (dn_var (i := 0)) (da_cons (dn_var (i := 1)) (da_cons (dn_var (i := 2)) da_nil))))) (blkOk_by (own := [("term", 5)]) (N := N_least_terms) (sc := defScope s_least_terms) (by decide +kernel)) (fun _ _ _ _ _ => (dg_name (i := 5) sc_least_terms.nd)) (fun _ _ _ _ _ => dts_nil) (fun _ _ _ _ _ => (dn_tup (da_cons (dn_var (i := 5)) (da_cons dn_int da_nil)))))
  (ds_one (ds_while 1000 PassesOwn.never (dt_truth dn_bl)
    (ds_cons (ds_set (i := 4) sc_least_terms.nd (dn_call G_polynomial_root.ok hr (by rfl) G_polynomial_root.m G_polynomial_root.kp G_polynomial_root.b pass0 (da_cons (dn_var (i := 0)) (da_cons (dn_var (i := 3)) da_nil))))
    (ds_cons (ds_if (dt_isN (dn_var (i := 4)))
      (ds_one (ds_ret (dn_var (i := 3))))
      ds_nil)
    (ds_one (ds_set (i := 3) sc_least_terms.nd (dn_var (i := 4)))))))))
abbrev s_degree : Stmt := topS 64
abbrev N_degree : List Str := ["tower", "element", "base"]
theorem sc_degree : FnScope N_degree ["tower", "element", "base"] (defScope s_degree) := ⟨rfl, rfl, rfl, by decide +kernel, rfl, by decide +kernel, by decide +kernel⟩
def den_degree (c_least_terms : List D → Option D) : List Sl → Option Out :=
  (sRet (d2 fSub (dCall fLen (ac (dCall c_least_terms (ac (dV 0) (ac (d2 fIx (dV 1) (dK (.int 0))) (ac (dV 2) a0)))) a0)) (dK (.int 1))))
theorem ok_degree {f : Addr} {fd : FuncData} {k : Nat} (F : Fun K "_degree" "_degree" s_degree f fd) (M : Names mg) {c_least_terms : List D → Option D} (G_least_terms : Cal P w K mg base k "_least_terms" ["tower", "vector", "base"] (SpD C c_least_terms)) : FnOk P w K mg base CX0 (k + 1) f fd ["tower", "element", "base"] (SpD C (runD 3 3 (den_degree c_least_terms))) :=
  fn_den F sc_degree fun cdv A outer s H E hr => (ds_one (ds_ret (dn_sub (dn_callB is_len call_len_seq (by rfl) M.len PySem.boot_len (da_cons (dn_call G_least_terms.ok hr (by rfl) G_least_terms.m G_least_terms.kp G_least_terms.b pass0 (da_cons (dn_var (i := 0)) (da_cons (dn_sub_ix (dn_var (i := 1)) dn_int (fun _ _ => rfl)) (da_cons (dn_var (i := 2)) da_nil)))) da_nil)) dn_int)))
abbrev sleast_polynomial : Stmt := topS 65
abbrev Nleast_polynomial : List Str := ["tower", "element", "vector", "scale", "terms", "power", "term", "_"]
theorem scleast_polynomial : FnScope Nleast_polynomial ["tower", "element"] (defScope sleast_polynomial) := ⟨rfl, rfl, rfl, by decide +kernel, rfl, by decide +kernel, by decide +kernel⟩
def denleast_polynomial (c_least_terms : List D → Option D) (cprimitive : List D → Option D) : List Sl → Option Out :=
  (sSeq (sAsg (dV 1) (gTu 2 (gcons (gN 2) (gcons (gN 3) gnil))))
  (sSeq (sNew 4 a0)
  (sSeq (sSet 5 (dK (.int 1)))
  (sSeq (sFor (iSeq (dCall c_least_terms (ac (dV 0) (ac (dV 2) (ac (dK (.int 0)) a0))))) (gTu 2 (gcons (gN 6) (gcons (gN 7) gnil)))
    (sSeq (sApp 4 (d2 fMul (d2 fIx (dV 6) (dK (.int 0))) (dV 5)))
    (sSet 5 (d2 fMul (dV 5) (dV 3)))))
  (sFrz 4 (sRet (dCall cprimitive (ac (dV 4) a0))))))))
theorem okleast_polynomial {f : Addr} {fd : FuncData} {k : Nat} (F : Fun K "least_polynomial" "least_polynomial" sleast_polynomial f fd) (M : Names mg) {c_least_terms : List D → Option D} {cprimitive : List D → Option D} (G_least_terms : Cal P w K mg base k "_least_terms" ["tower", "vector", "base"] (SpD C c_least_terms)) (Gprimitive : Cal P w K mg base k "primitive" ["polynomial"] (SpD C cprimitive)) : FnOk P w K mg base CX0 (k + 1) f fd ["tower", "element"] (SpD C (runD 2 8 (denleast_polynomial c_least_terms cprimitive))) :=
  fn_den F scleast_polynomial fun cdv A outer s H E hr => (ds_cons (ds_asg (dn_var (i := 1)) (dg_tup rfl (dg_cons (dg_name (i := 2) scleast_polynomial.nd) (dg_cons (dg_name (i := 3) scleast_polynomial.nd) dg_nil))))
  (ds_cons (ds_new (i := 4) scleast_polynomial.nd da_nil)
  (ds_cons (ds_set (i := 5) scleast_polynomial.nd dn_int)
  (ds_cons (ds_for PassesOwn.never rfl (di_seq (dn_call G_least_terms.ok hr (by rfl) G_least_terms.m G_least_terms.kp G_least_terms.b pass0 (da_cons (dn_var (i := 0)) (da_cons (dn_var (i := 2)) (da_cons dn_int da_nil))))) (dg_tup rfl (dg_cons (dg_name (i := 6) scleast_polynomial.nd) (dg_cons (dg_name (i := 7) scleast_polynomial.nd) dg_nil)))
    (ds_cons (ds_app (i := 4) (dn_mul (dn_sub_ix (dn_var (i := 6)) dn_int (fun _ _ => rfl)) (dn_var (i := 5))) (hps := fun h => ps_expr h) (hpe := fun h g => pe_bm PySem.F.plainAttrs_list PySem.F.slot_list_append PySem.F.type_list_append mt_append h g))
    (ds_one (ds_set (i := 5) scleast_polynomial.nd (dn_mul (dn_var (i := 5)) (dn_var (i := 3)))))))
  (dss_frz (i := 4) (ds_one (ds_ret (dn_call Gprimitive.ok hr (by rfl) Gprimitive.m Gprimitive.kp Gprimitive.b pass0 (da_cons (dn_var (i := 4)) da_nil)))))))))
abbrev sleast_field : Stmt := topS 66
abbrev Nleast_field : List Str := ["tower", "element", "degree", "base"]
theorem scleast_field : FnScope Nleast_field ["tower", "element"] (defScope sleast_field) := ⟨rfl, rfl, rfl, by decide +kernel, rfl, by decide +kernel, by decide +kernel⟩
def denleast_field (c_degree : List D → Option D) (c_with_root_below : List D → Option D) : List Sl → Option Out :=
  (sSeq (sSet 2 (dCall c_degree (ac (dV 0) (ac (dV 1) (ac (dK (.int 0)) a0)))))
  (sSeq (sIf (dAsB (d2 fEq (dV 2) (d2 fShl (dK (.int 1)) (dCall fLen (ac (dV 0) a0)))))
    (sRet (dTup (ac (dV 0) (ac (dV 1) a0))))
    sNext)
  (sSeq (sSet 3 (dK (.int 0)))
  (sSeq (whileD (dAsB (d2 (fB20 fun i j => decide (j < i)) (dV 2) (dK (.int 1))))
    (sSeq (sAsg (dCall c_with_root_below (ac (dV 0) (ac (dV 1) (ac (dV 3) (ac (dV 2) a0))))) (gTu 2 (gcons (gN 0) (gcons (gN 1) gnil))))
    (sSeq (sAug 3 (fun i j => i + j) (dK (.int 1)))
    (sSet 2 (d2 fDiv (dV 2) (dK (.int 2)))))) 1000)
  (sRet (dTup (ac (dSl (dV 0) p0 (p1 (dV 3))) (ac (dTup (ac (dSl (d2 fIx (dV 1) (dK (.int 0))) p0 (p1 (d2 fShl (dK (.int 1)) (dV 3)))) (ac (d2 fIx (dV 1) (dK (.int 1))) a0))) a0))))))))
theorem okleast_field {f : Addr} {fd : FuncData} {k : Nat} (F : Fun K "least_field" "least_field" sleast_field f fd) (M : Names mg) {c_degree : List D → Option D} {c_with_root_below : List D → Option D} (G_degree : Cal P w K mg base k "_degree" ["tower", "element", "base"] (SpD C c_degree)) (G_with_root_below : Cal P w K mg base k "_with_root_below" ["tower", "element", "base", "degree"] (SpD C c_with_root_below)) : FnOk P w K mg base CX0 (k + 1) f fd ["tower", "element"] (SpD C (runD 2 4 (denleast_field c_degree c_with_root_below))) :=
  fn_den F scleast_field fun cdv A outer s H E hr => (ds_cons (ds_set (i := 2) scleast_field.nd (dn_call G_degree.ok hr (by rfl) G_degree.m G_degree.kp G_degree.b pass0 (da_cons (dn_var (i := 0)) (da_cons (dn_var (i := 1)) (da_cons dn_int da_nil)))))
  (ds_cons (ds_if (dt_eq hr.units (dn_var (i := 2)) (dn_shl dn_int (dn_callB is_len call_len_seq (by rfl) M.len PySem.boot_len (da_cons (dn_var (i := 0)) da_nil))))
    (ds_one (ds_ret (dn_tup (da_cons (dn_var (i := 0)) (da_cons (dn_var (i := 1)) da_nil)))))
    ds_nil)
  (ds_cons (ds_set (i := 3) scleast_field.nd dn_int)
  (ds_cons (ds_while 1000 PassesOwn.never (dt_gt (dn_var (i := 2)) dn_int)
    (ds_cons (ds_asg (dn_call G_with_root_below.ok hr (by rfl) G_with_root_below.m G_with_root_below.kp G_with_root_below.b pass0 (da_cons (dn_var (i := 0)) (da_cons (dn_var (i := 1)) (da_cons (dn_var (i := 3)) (da_cons (dn_var (i := 2)) da_nil))))) (dg_tup rfl (dg_cons (dg_name (i := 0) scleast_field.nd) (dg_cons (dg_name (i := 1) scleast_field.nd) dg_nil))))
    (ds_cons (ds_aug (i := 3) scleast_field.nd dn_int ip_add)
    (ds_one (ds_set (i := 2) scleast_field.nd (dn_div (dn_var (i := 2)) dn_int))))))
  (ds_one (ds_ret (dn_tup (da_cons (dn_slice (dn_var (i := 0)) dp_none (dp_some (dn_var (i := 3)))) (da_cons (dn_tup (da_cons (dn_slice (dn_sub_ix (dn_var (i := 1)) dn_int (fun _ _ => rfl)) dp_none (dp_some (dn_shl dn_int (dn_var (i := 3))))) (da_cons (dn_sub_ix (dn_var (i := 1)) dn_int (fun _ _ => rfl)) da_nil))) da_nil)))))))))
abbrev s_with_root_below : Stmt := topS 67
abbrev N_with_root_below : List Str := ["tower", "element", "base", "degree", "squares", "choice", "square", "k", "one", "start", "_", "rebuilt", "images", "moved"]
theorem sc_with_root_below : FnScope N_with_root_below ["tower", "element", "base", "degree"] (defScope s_with_root_below) := ⟨rfl, rfl, rfl, by decide +kernel, rfl, by decide +kernel, by decide +kernel⟩
def den_with_root_below (cnew_squares : List D → Option D) (cpadded : List D → Option D) (cmultiplied : List D → Option D) (cadjoined : List D → Option D) (cjoined : List D → Option D) (cimage_of_element : List D → Option D) (c_degree : List D → Option D) : List Sl → Option Out :=
  (sSeq (sSet 4 (dCall cnew_squares (ac (dV 0) (ac (dV 2) a0))))
  (sSeq (sFor (iRng r2D (ac (dK (.int 1)) (ac (d2 fShl (dK (.int 1)) (dCall fLen (ac (dV 4) a0))) a0))) (gN 5)
    (sSeq (sSet 6 (dCall cpadded (ac (dTup (ac (dK (.int 1)) a0)) (ac (d2 fShl (dK (.int 1)) (dV 2)) a0))))
    (sSeq (sFor (iEnumD (ac (dV 4) a0)) (gTu 2 (gcons (gN 7) (gcons (gN 8) gnil)))
      (sIf (dTru (d2 fAnd (d2 fShr (dV 5) (dV 7)) (dK (.int 1))))
        (sSet 6 (dCall cmultiplied (ac (dV 0) (ac (dV 6) (ac (dV 8) a0)))))
        sNext))
    (sSeq (sAsg (dCall cadjoined (ac (dSl (dV 0) p0 (p1 (dV 2))) (ac (dTup (ac (dV 6) (ac (dK (.int 1)) a0))) a0))) (gTu 2 (gcons (gN 9) (gcons (gN 10) gnil))))
    (sSeq (sAsg (dCall cjoined (ac (dV 9) (ac (dV 0) (ac (dCall fLen (ac (dV 0) a0)) a0)))) (gTu 2 (gcons (gN 11) (gcons (gN 12) gnil))))
    (sSeq (sSet 13 (dCall cimage_of_element (ac (dV 11) (ac (dV 12) (ac (dV 1) a0)))))
    (sIf (dAsB (d2 fLtA (dCall c_degree (ac (dV 11) (ac (dV 13) (ac (d2 fAdd (dV 2) (dK (.int 1))) a0)))) (dV 3)))
      (sRet (dTup (ac (dV 11) (ac (dV 13) a0))))
      sNext)))))))
  (sRet (dTup (ac (dV 0) (ac (dV 1) a0))))))
theorem ok_with_root_below {f : Addr} {fd : FuncData} {k : Nat} (F : Fun K "_with_root_below" "_with_root_below" s_with_root_below f fd) (M : Names mg) {cnew_squares : List D → Option D} {cpadded : List D → Option D} {cmultiplied : List D → Option D} {cadjoined : List D → Option D} {cjoined : List D → Option D} {cimage_of_element : List D → Option D} {c_degree : List D → Option D} (Gnew_squares : Cal P w K mg base k "new_squares" ["tower", "base"] (SpD C cnew_squares)) (Gpadded : Cal P w K mg base k "padded" ["vector", "size"] (SpD C cpadded)) (Gmultiplied : Cal P w K mg base k "multiplied" ["tower", "one", "other"] (SpD C cmultiplied)) (Gadjoined : Cal P w K mg base k "adjoined" ["tower", "square"] (SpD C cadjoined)) (Gjoined : Cal P w K mg base k "joined" ["tower", "other", "most"] (SpD C cjoined)) (Gimage_of_element : Cal P w K mg base k "image_of_element" ["tower", "images", "element"] (SpD C cimage_of_element)) (G_degree : Cal P w K mg base k "_degree" ["tower", "element", "base"] (SpD C c_degree)) : FnOk P w K mg base CX0 (k + 1) f fd ["tower", "element", "base", "degree"] (SpD C (runD 4 14 (den_with_root_below cnew_squares cpadded cmultiplied cadjoined cjoined cimage_of_element c_degree))) :=
  fn_den F sc_with_root_below fun cdv A outer s H E hr => (ds_cons (ds_set (i := 4) sc_with_root_below.nd (dn_call Gnew_squares.ok hr (by rfl) Gnew_squares.m Gnew_squares.kp Gnew_squares.b pass0 (da_cons (dn_var (i := 0)) (da_cons (dn_var (i := 2)) da_nil))))
  (ds_cons (ds_for PassesOwn.never rfl (di_range2 (by rfl) M.range (da_cons dn_int (da_cons (dn_shl dn_int (dn_callB is_len call_len_seq (by rfl) M.len PySem.boot_len (da_cons (dn_var (i := 4)) da_nil))) da_nil))) (dg_name (i := 5) sc_with_root_below.nd)
    (ds_cons (ds_set (i := 6) sc_with_root_below.nd (dn_call Gpadded.ok hr (by rfl) Gpadded.m Gpadded.kp Gpadded.b pass0 (da_cons (dn_tup (da_cons dn_int da_nil)) (da_cons (dn_shl dn_int (dn_var (i := 2))) da_nil))))
    (ds_cons (ds_for PassesOwn.never rfl (di_enum (by rfl) M.enumerate (da_cons (dn_var (i := 4)) da_nil)) (dg_tup rfl (dg_cons (dg_name (i := 7) sc_with_root_below.nd) (dg_cons (dg_name (i := 8) sc_with_root_below.nd) dg_nil)))
      (ds_one (ds_if (dt_truth (dn_and (dn_shr (dn_var (i := 5)) (dn_var (i := 7))) dn_int))
        (ds_one (ds_set (i := 6) sc_with_root_below.nd (dn_call Gmultiplied.ok hr (by rfl) Gmultiplied.m Gmultiplied.kp Gmultiplied.b pass0 (da_cons (dn_var (i := 0)) (da_cons (dn_var (i := 6)) (da_cons (dn_var (i := 8)) da_nil))))))
        ds_nil)))
    (ds_cons (ds_asg (dn_call Gadjoined.ok hr (by rfl) Gadjoined.m Gadjoined.kp Gadjoined.b pass0 (da_cons (dn_slice (dn_var (i := 0)) dp_none (dp_some (dn_var (i := 2)))) (da_cons (dn_tup (da_cons (dn_var (i := 6)) (da_cons dn_int da_nil))) da_nil))) (dg_tup rfl (dg_cons (dg_name (i := 9) sc_with_root_below.nd) (dg_cons (dg_name (i := 10) sc_with_root_below.nd) dg_nil))))
    (ds_cons (ds_asg (dn_call Gjoined.ok hr (by rfl) Gjoined.m Gjoined.kp Gjoined.b pass0 (da_cons (dn_var (i := 9)) (da_cons (dn_var (i := 0)) (da_cons (dn_callB is_len call_len_seq (by rfl) M.len PySem.boot_len (da_cons (dn_var (i := 0)) da_nil)) da_nil)))) (dg_tup rfl (dg_cons (dg_name (i := 11) sc_with_root_below.nd) (dg_cons (dg_name (i := 12) sc_with_root_below.nd) dg_nil))))
    (ds_cons (ds_set (i := 13) sc_with_root_below.nd (dn_call Gimage_of_element.ok hr (by rfl) Gimage_of_element.m Gimage_of_element.kp Gimage_of_element.b pass0 (da_cons (dn_var (i := 11)) (da_cons (dn_var (i := 12)) (da_cons (dn_var (i := 1)) da_nil)))))
    (ds_one (ds_if (dt_ltA hr.units0 (dn_call G_degree.ok hr (by rfl) G_degree.m G_degree.kp G_degree.b pass0 (da_cons (dn_var (i := 11)) (da_cons (dn_var (i := 13)) (da_cons (dn_add (dn_var (i := 2)) dn_int) da_nil)))) (dn_var (i := 3)))
      (ds_one (ds_ret (dn_tup (da_cons (dn_var (i := 11)) (da_cons (dn_var (i := 13)) da_nil)))))
      ds_nil))))))))
  (ds_one (ds_ret (dn_tup (da_cons (dn_var (i := 0)) (da_cons (dn_var (i := 1)) da_nil)))))))
abbrev stogether : Stmt := topS 68
abbrev Ntogether : List Str := ["one", "other", "found", "small", "second"]
theorem sctogether : FnScope Ntogether ["one", "other"] (defScope stogether) := ⟨rfl, rfl, rfl, by decide +kernel, rfl, by decide +kernel, by decide +kernel⟩
def dentogether (c_in_one_tower : List D → Option D) (cleast_field : List D → Option D) : List Sl → Option Out :=
  (sSeq (sIf (dAsB (d2 fEq (d2 fIx (dV 0) (dK (.int 0))) (d2 fIx (dV 1) (dK (.int 0)))))
    (sRet (dTup (ac (d2 fIx (dV 0) (dK (.int 0))) (ac (d2 fIx (dV 0) (dK (.int 1))) (ac (d2 fIx (dV 1) (dK (.int 1))) a0)))))
    sNext)
  (sSeq (sSet 2 (dCall c_in_one_tower (ac (dV 0) (ac (dV 1) (ac (dK (.int (4))) a0)))))
  (sSeq (sIf (dAsB (d2 fIsN (dV 2) (dK .non)))
    (sSeq (sPar 3 4 (ac (dCall cleast_field (ac (d2 fIx (dV 0) (dK (.int 0))) (ac (d2 fIx (dV 0) (dK (.int 1))) a0))) (ac (dCall cleast_field (ac (d2 fIx (dV 1) (dK (.int 0))) (ac (d2 fIx (dV 1) (dK (.int 1))) a0))) a0)))
    (sSet 2 (dCall c_in_one_tower (ac (dV 3) (ac (dV 4) (ac (d2 fAdd (dCall fLen (ac (d2 fIx (dV 3) (dK (.int 0))) a0)) (dCall fLen (ac (d2 fIx (dV 4) (dK (.int 0))) a0))) a0))))))
    sNext)
  (sRet (dV 2)))))
theorem oktogether {f : Addr} {fd : FuncData} {k : Nat} (F : Fun K "together" "together" stogether f fd) (M : Names mg) {c_in_one_tower : List D → Option D} {cleast_field : List D → Option D} (G_in_one_tower : Cal P w K mg base k "_in_one_tower" ["one", "other", "most"] (SpD C c_in_one_tower)) (Gleast_field : Cal P w K mg base k "least_field" ["tower", "element"] (SpD C cleast_field)) : FnOk P w K mg base CX0 (k + 1) f fd ["one", "other"] (SpD C (runD 2 5 (dentogether c_in_one_tower cleast_field))) :=
  fn_den F sctogether fun cdv A outer s H E hr => (ds_cons (ds_if (dt_eq hr.units (dn_sub_ix (dn_var (i := 0)) dn_int (fun _ _ => rfl)) (dn_sub_ix (dn_var (i := 1)) dn_int (fun _ _ => rfl)))
    (ds_one (ds_ret (dn_tup (da_cons (dn_sub_ix (dn_var (i := 0)) dn_int (fun _ _ => rfl)) (da_cons (dn_sub_ix (dn_var (i := 0)) dn_int (fun _ _ => rfl)) (da_cons (dn_sub_ix (dn_var (i := 1)) dn_int (fun _ _ => rfl)) da_nil))))))
    ds_nil)
  (ds_cons (ds_set (i := 2) sctogether.nd (dn_call G_in_one_tower.ok hr (by rfl) G_in_one_tower.m G_in_one_tower.kp G_in_one_tower.b pass0 (da_cons (dn_var (i := 0)) (da_cons (dn_var (i := 1)) (da_cons (dn_globI (by rfl) M.MOST_GENERATORS) da_nil)))))
  (ds_cons (ds_if (dt_isN (dn_var (i := 2)))
    (ds_cons (ds_par (i := 3) (j := 4) rfl sctogether.nd (da_cons (dn_call Gleast_field.ok hr (by rfl) Gleast_field.m Gleast_field.kp Gleast_field.b pass0 (da_cons (dn_sub_ix (dn_var (i := 0)) dn_int (fun _ _ => rfl)) (da_cons (dn_sub_ix (dn_var (i := 0)) dn_int (fun _ _ => rfl)) da_nil))) (da_cons (dn_call Gleast_field.ok hr (by rfl) Gleast_field.m Gleast_field.kp Gleast_field.b pass0 (da_cons (dn_sub_ix (dn_var (i := 1)) dn_int (fun _ _ => rfl)) (da_cons (dn_sub_ix (dn_var (i := 1)) dn_int (fun _ _ => rfl)) da_nil))) da_nil)))
    (ds_one (ds_set (i := 2) sctogether.nd (dn_call G_in_one_tower.ok hr (by rfl) G_in_one_tower.m G_in_one_tower.kp G_in_one_tower.b pass0 (da_cons (dn_var (i := 3)) (da_cons (dn_var (i := 4)) (da_cons (dn_add (dn_callB is_len call_len_seq (by rfl) M.len PySem.boot_len (da_cons (dn_sub_ix (dn_var (i := 3)) dn_int (fun _ _ => rfl)) da_nil)) (dn_callB is_len call_len_seq (by rfl) M.len PySem.boot_len (da_cons (dn_sub_ix (dn_var (i := 4)) dn_int (fun _ _ => rfl)) da_nil))) da_nil)))))))
    ds_nil)
  (ds_one (ds_ret (dn_var (i := 2)))))))
abbrev s_in_one_tower : Stmt := topS 69
abbrev N_in_one_tower : List Str := ["one", "other", "most", "turned", "found", "tower", "images"]
theorem sc_in_one_tower : FnScope N_in_one_tower ["one", "other", "most"] (defScope s_in_one_tower) := ⟨rfl, rfl, rfl, by decide +kernel, rfl, by decide +kernel, by decide +kernel⟩
def den_in_one_tower (c_rank : List D → Option D) (c_in_one_tower : List D → Option D) (cjoined : List D → Option D) (cimage_of_element : List D → Option D) (cwidened : List D → Option D) : List Sl → Option Out :=
  (sSeq (sIf (dAsB (d2 fLtA (dCall c_rank (ac (d2 fIx (dV 0) (dK (.int 0))) a0)) (dCall c_rank (ac (d2 fIx (dV 1) (dK (.int 0))) a0))))
    (sSeq (sSet 3 (dCall c_in_one_tower (ac (dV 1) (ac (dV 0) (ac (dV 2) a0)))))
    (sSeq (sIf (dAsB (d2 fIsN (dV 3) (dK .non)))
      (sRet (dK .non))
      sNext)
    (sRet (dTup (ac (d2 fIx (dV 3) (dK (.int 0))) (ac (d2 fIx (dV 3) (dK (.int 2))) (ac (d2 fIx (dV 3) (dK (.int 1))) a0)))))))
    sNext)
  (sSeq (sSet 4 (dCall cjoined (ac (d2 fIx (dV 0) (dK (.int 0))) (ac (d2 fIx (dV 1) (dK (.int 0))) (ac (dV 2) a0)))))
  (sSeq (sIf (dAsB (d2 fIsN (dV 4) (dK .non)))
    (sRet (dK .non))
    sNext)
  (sSeq (sAsg (dV 4) (gTu 2 (gcons (gN 5) (gcons (gN 6) gnil))))
  (sRet (dTup (ac (dV 5) (ac (dCall cwidened (ac (d2 fIx (dV 0) (dK (.int 1))) (ac (d2 fShl (dK (.int 1)) (dCall fLen (ac (dV 5) a0))) a0))) (ac (dCall cimage_of_element (ac (dV 5) (ac (dV 6) (ac (d2 fIx (dV 1) (dK (.int 1))) a0)))) a0)))))))))
theorem ok_in_one_tower {f : Addr} {fd : FuncData} {k : Nat} (F : Fun K "_in_one_tower" "_in_one_tower" s_in_one_tower f fd) (M : Names mg) {c_rank : List D → Option D} {c_in_one_tower : List D → Option D} {cjoined : List D → Option D} {cimage_of_element : List D → Option D} {cwidened : List D → Option D} (G_rank : Cal P w K mg base k "_rank" ["tower"] (SpD C c_rank)) (G_in_one_tower : Cal P w K mg base k "_in_one_tower" ["one", "other", "most"] (SpD C c_in_one_tower)) (Gjoined : Cal P w K mg base k "joined" ["tower", "other", "most"] (SpD C cjoined)) (Gimage_of_element : Cal P w K mg base k "image_of_element" ["tower", "images", "element"] (SpD C cimage_of_element)) (Gwidened : Cal P w K mg base k "widened" ["element", "size"] (SpD C cwidened)) : FnOk P w K mg base CX0 (k + 1) f fd ["one", "other", "most"] (SpD C (runD 3 7 (den_in_one_tower c_rank c_in_one_tower cjoined cimage_of_element cwidened))) :=
  fn_den F sc_in_one_tower fun cdv A outer s H E hr => (ds_cons (ds_if (dt_ltA hr.units0 (dn_call G_rank.ok hr (by rfl) G_rank.m G_rank.kp G_rank.b pass0 (da_cons (dn_sub_ix (dn_var (i := 0)) dn_int (fun _ _ => rfl)) da_nil)) (dn_call G_rank.ok hr (by rfl) G_rank.m G_rank.kp G_rank.b pass0 (da_cons (dn_sub_ix (dn_var (i := 1)) dn_int (fun _ _ => rfl)) da_nil)))
    (ds_cons (ds_set (i := 3) sc_in_one_tower.nd (dn_call G_in_one_tower.ok hr (by rfl) G_in_one_tower.m G_in_one_tower.kp G_in_one_tower.b pass0 (da_cons (dn_var (i := 1)) (da_cons (dn_var (i := 0)) (da_cons (dn_var (i := 2)) da_nil)))))
    (ds_cons (ds_if (dt_isN (dn_var (i := 3)))
      (ds_one (ds_ret dn_non))
      ds_nil)
    (ds_one (ds_ret (dn_tup (da_cons (dn_sub_ix (dn_var (i := 3)) dn_int (fun _ _ => rfl)) (da_cons (dn_sub_ix (dn_var (i := 3)) dn_int (fun _ _ => rfl)) (da_cons (dn_sub_ix (dn_var (i := 3)) dn_int (fun _ _ => rfl)) da_nil))))))))
    ds_nil)
  (ds_cons (ds_set (i := 4) sc_in_one_tower.nd (dn_call Gjoined.ok hr (by rfl) Gjoined.m Gjoined.kp Gjoined.b pass0 (da_cons (dn_sub_ix (dn_var (i := 0)) dn_int (fun _ _ => rfl)) (da_cons (dn_sub_ix (dn_var (i := 1)) dn_int (fun _ _ => rfl)) (da_cons (dn_var (i := 2)) da_nil)))))
  (ds_cons (ds_if (dt_isN (dn_var (i := 4)))
    (ds_one (ds_ret dn_non))
    ds_nil)
  (ds_cons (ds_asg (dn_var (i := 4)) (dg_tup rfl (dg_cons (dg_name (i := 5) sc_in_one_tower.nd) (dg_cons (dg_name (i := 6) sc_in_one_tower.nd) dg_nil))))
  (ds_one (ds_ret (dn_tup (da_cons (dn_var (i := 5)) (da_cons (dn_call Gwidened.ok hr (by rfl) Gwidened.m Gwidened.kp Gwidened.b pass0 (da_cons (dn_sub_ix (dn_var (i := 0)) dn_int (fun _ _ => rfl)) (da_cons (dn_shl dn_int (dn_callB is_len call_len_seq (by rfl) M.len PySem.boot_len (da_cons (dn_var (i := 5)) da_nil))) da_nil))) (da_cons (dn_call Gimage_of_element.ok hr (by rfl) Gimage_of_element.m Gimage_of_element.kp Gimage_of_element.b pass0 (da_cons (dn_var (i := 5)) (da_cons (dn_var (i := 6)) (da_cons (dn_sub_ix (dn_var (i := 1)) dn_int (fun _ _ => rfl)) da_nil)))) da_nil))))))))))
abbrev s_rank : Stmt := topS 70
abbrev N_rank : List Str := ["tower", "digits", "generator", "n"]
theorem sc_rank : FnScope N_rank ["tower"] (defScope s_rank) := ⟨rfl, rfl, rfl, by decide +kernel, rfl, by decide +kernel, by decide +kernel⟩
def den_rank : List Sl → Option Out :=
  (sSeq (sSet 1 (dK (.int 0)))
  (sSeq (sFor (iSeq (dV 0)) (gN 2)
    (sFor (iSeq (dV 2)) (gN 3)
      (sSet 1 (d2 fAdd (dV 1) (d1 fBits (dV 3))))))
  (sRet (dTup (ac (dCall fLen (ac (dV 0) a0)) (ac (d1 (fI1 fun i => -i) (dV 1)) a0))))))
theorem ok_rank {f : Addr} {fd : FuncData} {k : Nat} (F : Fun K "_rank" "_rank" s_rank f fd) (M : Names mg) : FnOk P w K mg base CX0 (k + 1) f fd ["tower"] (SpD C (runD 1 4 (den_rank))) :=
  fn_den F sc_rank fun cdv A outer s H E hr => (ds_cons (ds_set (i := 1) sc_rank.nd dn_int)
  (ds_cons (ds_for PassesOwn.never rfl (di_seq (dn_var (i := 0))) (dg_name (i := 2) sc_rank.nd)
    (ds_one (ds_for PassesOwn.never rfl (di_seq (dn_var (i := 2))) (dg_name (i := 3) sc_rank.nd)
      (ds_one (ds_set (i := 1) sc_rank.nd (dn_add (dn_var (i := 1)) (dn_bits (dn_var (i := 3)))))))))
  (ds_one (ds_ret (dn_tup (da_cons (dn_callB is_len call_len_seq (by rfl) M.len PySem.boot_len (da_cons (dn_var (i := 0)) da_nil)) (da_cons (dn_neg (dn_var (i := 1))) da_nil)))))))
end
end K31

set_option maxHeartbeats 4000000
namespace K31
open PySem PySem.Spec PyProof.Rows L2 KG DN
section
variable {P : Program} {w : World} {K : PySem.W.Frag} {mg : Str → Option Value} {base : Heap} {C : Addr}
abbrev swhole_element : Stmt := topS 78
abbrev Nwhole_element : List Str := ["n"]
theorem scwhole_element : FnScope Nwhole_element ["n"] (defScope swhole_element) := ⟨rfl, rfl, rfl, by decide +kernel, rfl, by decide +kernel, by decide +kernel⟩
def denwhole_element : List Sl → Option Out :=
  (sRet (dTup (ac (dTup (ac (dV 0) a0)) (ac (dK (.int 1)) a0))))
theorem okwhole_element {f : Addr} {fd : FuncData} {k : Nat} (F : Fun K "whole_element" "whole_element" swhole_element f fd) (M : Names mg) : FnOk P w K mg base CX0 (k + 1) f fd ["n"] (SpD C (runD 1 1 (denwhole_element))) :=
  fn_den F scwhole_element fun cdv A outer s H E hr => (ds_one (ds_ret (dn_tup (da_cons (dn_tup (da_cons (dn_var (i := 0)) da_nil)) (da_cons dn_int da_nil)))))
abbrev s_alike : Stmt := topS 79
abbrev N_alike : List Str := ["one", "other", "size"]
theorem sc_alike : FnScope N_alike ["one", "other"] (defScope s_alike) := ⟨rfl, rfl, rfl, by decide +kernel, rfl, by decide +kernel, by decide +kernel⟩
def den_alike (cwidened : List D → Option D) : List Sl → Option Out :=
  (sSeq (sSet 2 (dCall fMax (ac (dCall fLen (ac (d2 fIx (dV 0) (dK (.int 0))) a0)) (ac (dCall fLen (ac (d2 fIx (dV 1) (dK (.int 0))) a0)) a0))))
  (sRet (dTup (ac (dCall cwidened (ac (dV 0) (ac (dV 2) a0))) (ac (dCall cwidened (ac (dV 1) (ac (dV 2) a0))) a0)))))
theorem ok_alike {f : Addr} {fd : FuncData} {k : Nat} (F : Fun K "_alike" "_alike" s_alike f fd) (M : Names mg) {cwidened : List D → Option D} (Gwidened : Cal P w K mg base k "widened" ["element", "size"] (SpD C cwidened)) : FnOk P w K mg base CX0 (k + 1) f fd ["one", "other"] (SpD C (runD 2 3 (den_alike cwidened))) :=
  fn_den F sc_alike fun cdv A outer s H E hr => (ds_cons (ds_set (i := 2) sc_alike.nd (dn_callB (is_max (K := K)) ((call_max2 rfl).or (cr_max rfl)) (by rfl) M.max (by decide +kernel) (da_cons (dn_callB is_len call_len_seq (by rfl) M.len PySem.boot_len (da_cons (dn_sub_ix (dn_var (i := 0)) dn_int (fun _ _ => rfl)) da_nil)) (da_cons (dn_callB is_len call_len_seq (by rfl) M.len PySem.boot_len (da_cons (dn_sub_ix (dn_var (i := 1)) dn_int (fun _ _ => rfl)) da_nil)) da_nil))))
  (ds_one (ds_ret (dn_tup (da_cons (dn_call Gwidened.ok hr (by rfl) Gwidened.m Gwidened.kp Gwidened.b pass0 (da_cons (dn_var (i := 0)) (da_cons (dn_var (i := 2)) da_nil))) (da_cons (dn_call Gwidened.ok hr (by rfl) Gwidened.m Gwidened.kp Gwidened.b pass0 (da_cons (dn_var (i := 1)) (da_cons (dn_var (i := 2)) da_nil))) da_nil))))))
abbrev s_shortest : Stmt := topS 80
abbrev N_shortest : List Str := ["element", "vector", "scale"]
theorem sc_shortest : FnScope N_shortest ["element"] (defScope s_shortest) := ⟨rfl, rfl, rfl, by decide +kernel, rfl, by decide +kernel, by decide +kernel⟩
def den_shortest : List Sl → Option Out :=
  (sSeq (sAsg (dV 0) (gTu 2 (gcons (gN 1) (gcons (gN 2) gnil))))
  (sSeq (whileD (bAnd (dAsB (d2 (fB20 fun i j => decide (j < i)) (dCall fLen (ac (dV 1) a0)) (dK (.int 1)))) (bNot (dTru (dCall fAny (ac (dSl (dV 1) (p1 (d2 fDiv (dCall fLen (ac (dV 1) a0)) (dK (.int 2)))) p0) a0)))))
    (sSet 1 (dSl (dV 1) p0 (p1 (d2 fDiv (dCall fLen (ac (dV 1) a0)) (dK (.int 2)))))) 1000)
  (sRet (dTup (ac (dV 1) (ac (dV 2) a0))))))
theorem ok_shortest {f : Addr} {fd : FuncData} {k : Nat} (F : Fun K "_shortest" "_shortest" s_shortest f fd) (M : Names mg) : FnOk P w K mg base CX0 (k + 1) f fd ["element"] (SpD C (runD 1 3 (den_shortest))) :=
  fn_den F sc_shortest fun cdv A outer s H E hr => (ds_cons (ds_asg (dn_var (i := 0)) (dg_tup rfl (dg_cons (dg_name (i := 1) sc_shortest.nd) (dg_cons (dg_name (i := 2) sc_shortest.nd) dg_nil))))
  (ds_cons (ds_while 1000 PassesOwn.never (PW.pt (dw_and (dt_gt (dn_callB is_len call_len_seq (by rfl) M.len PySem.boot_len (da_cons (dn_var (i := 1)) da_nil)) dn_int) (dw_and1 (dt_not (dt_truth (dn_callB (is_any (K := K)) (cr_anyA rfl) (by rfl) M.any (by decide +kernel) (da_cons (dn_slice (dn_var (i := 1)) (dp_some (dn_div (dn_callB is_len call_len_seq (by rfl) M.len PySem.boot_len (da_cons (dn_var (i := 1)) da_nil)) dn_int)) dp_none) da_nil)))))))
    (ds_one (ds_set (i := 1) sc_shortest.nd (dn_slice (dn_var (i := 1)) dp_none (dp_some (dn_div (dn_callB is_len call_len_seq (by rfl) M.len PySem.boot_len (da_cons (dn_var (i := 1)) da_nil)) dn_int))))))
  (ds_one (ds_ret (dn_tup (da_cons (dn_var (i := 1)) (da_cons (dn_var (i := 2)) da_nil)))))))
end
end K31

set_option maxHeartbeats 4000000
namespace K31
open PySem PySem.Spec PyProof.Rows L2 KG DN
section
variable {P : Program} {w : World} {K : PySem.W.Frag} {mg : Str → Option Value} {base : Heap} {S : CS}
abbrev sNumber___init__ : Stmt := inCls (topS 72) 0
abbrev NNumber___init__ : List Str := ["self", "n", "d"]
theorem scNumber___init__ : FnScope NNumber___init__ ["self", "n", "d"] (defScope sNumber___init__) := ⟨rfl, rfl, rfl, by decide +kernel, rfl, by decide +kernel, by decide +kernel⟩
def denNumber___init__ (clowest : List D → Option D) : ZS :=
  (ySeq (lf (sIf (dAsB (d2 fEq (dV 2) (dK (.int 0))))
    sNone
    sNext))
  (ySeq (yAsg (lf (dTup a0)) (yAtt 0 "tower" (lf (dV 0))))
  (yAsg (lf (dCall clowest (ac (dTup (ac (dV 1) a0)) (ac (dV 2) a0)))) (yAtt 0 "element" (lf (dV 0))))))
theorem okNumber___init__ {f : Addr} {fd : FuncData} {k : Nat} (F : FunD K "__init__" "Number.__init__" (defArgs sNumber___init__) (defBody sNumber___init__) (defScope sNumber___init__) [.int 1] [] f fd) (M : Names mg) (Z : CtxN P w K mg S) (TNumber : ClsC K (S.cl 0) ["tower", "element"]) (TField : ClsC K (S.cl 1) ["tower", "known_roots"]) {clowest : List D → Option D} (Glowest : Cal P w K mg base k "lowest" ["vector", "scale"] (SpD S.cls clowest)) : FnOk P w K mg base CX0 (k + 1) f fd ["self", "n", "d"] (SpS S (runS 3 3 (denNumber___init__ clowest))) :=
  fnS_denD F scNumber___init__ fun cdv A outer s H E hr => (zs_cons (zs (ds_if (dt_eq hr.units (dn_var (i := 2)) dn_int)
    (ds_one ds_nev)
    ds_nil))
  (zs_cons (zs_asg (zl (dn_tup da_nil)) (zg_att (t := 0) TNumber.cl (TNumber.na _ (by simp)) (zl (dn_var (i := 0)))))
  (zs_one (zs_asg (zl (dn_call Glowest.ok hr (by rfl) Glowest.m Glowest.kp Glowest.b pass0 (da_cons (dn_tup (da_cons (dn_var (i := 1)) da_nil)) (da_cons (dn_var (i := 2)) da_nil)))) (zg_att (t := 0) TNumber.cl (TNumber.na _ (by simp)) (zl (dn_var (i := 0))))))))
abbrev snumber_in : Stmt := topS 73
abbrev Nnumber_in : List Str := ["tower", "element", "small", "inside", "number"]
theorem scnumber_in : FnScope Nnumber_in ["tower", "element"] (defScope snumber_in) := ⟨rfl, rfl, rfl, by decide +kernel, rfl, by decide +kernel, by decide +kernel⟩
def dennumber_in (ctrimmed : List D → Option D) (cmkNumber : FnS) : ZS :=
  (ySeq (lf (sAsg (dCall ctrimmed (ac (dV 0) (ac (dV 1) a0))) (gTu 2 (gcons (gN 2) (gcons (gN 3) gnil)))))
  (ySeq (ySet 4 (zMakeD 0 cmkNumber (lf (ac (dK (.int 0)) a0)) [.int 1]))
  (ySeq (yAsg (lf (dV 2)) (yAtt 0 "tower" (lf (dV 4))))
  (ySeq (yAsg (lf (dV 3)) (yAtt 0 "element" (lf (dV 4))))
  (yRet (lf (dV 4)))))))
theorem oknumber_in {f : Addr} {fd : FuncData} {k : Nat} (F : Fun K "number_in" "number_in" snumber_in f fd) (M : Names mg) (Z : CtxN P w K mg S) (TNumber : ClsC K (S.cl 0) ["tower", "element"]) (TField : ClsC K (S.cl 1) ["tower", "known_roots"]) {ctrimmed : List D → Option D} {cmkNumber : FnS} (Gtrimmed : Cal P w K mg base k "trimmed" ["tower", "element"] (SpD S.cls ctrimmed)) (GmkNumber : MkD P w K mg base k S 0 "Number" ["self", "n", "d"] cmkNumber 1) : FnOk P w K mg base CX0 (k + 1) f fd ["tower", "element"] (SpD S.cls (frz 0 (runS 2 5 (dennumber_in ctrimmed cmkNumber)))) :=
  spD_frz Z.h0 <| fnS_den F scnumber_in fun cdv A outer s H E hr => (zs_cons (zs (ds_asg (dn_call Gtrimmed.ok hr (by rfl) Gtrimmed.m Gtrimmed.kp Gtrimmed.b pass0 (da_cons (dn_var (i := 0)) (da_cons (dn_var (i := 1)) da_nil))) (dg_tup rfl (dg_cons (dg_name (i := 2) scnumber_in.nd) (dg_cons (dg_name (i := 3) scnumber_in.nd) dg_nil)))))
  (zs_cons (zs_set (i := 4) scnumber_in.nd (zn_makeD (t := 0) GmkNumber.m GmkNumber.ok (hr.mono GmkNumber.lt) (by rfl) GmkNumber.h GmkNumber.bd GmkNumber.vd int1_rp pass0 (zla (da_cons dn_int da_nil))))
  (zs_cons (zs_asg (zl (dn_var (i := 2))) (zg_att (t := 0) TNumber.cl (TNumber.na _ (by simp)) (zl (dn_var (i := 4)))))
  (zs_cons (zs_asg (zl (dn_var (i := 3))) (zg_att (t := 0) TNumber.cl (TNumber.na _ (by simp)) (zl (dn_var (i := 4)))))
  (zs_one (zs_ret (zl (dn_var (i := 4)))))))))
abbrev s_both : Stmt := topS 74
abbrev N_both : List Str := ["one", "other"]
theorem sc_both : FnScope N_both ["one", "other"] (defScope s_both) := ⟨rfl, rfl, rfl, by decide +kernel, rfl, by decide +kernel, by decide +kernel⟩
def den_both (ctogether : List D → Option D) : List Sl → Option Out :=
  (sRet (dCall ctogether (ac (dTup (ac (d1 (fNumF true) (dV 0)) (ac (d1 (fNumF false) (dV 0)) a0))) (ac (dTup (ac (d1 (fNumF true) (dV 1)) (ac (d1 (fNumF false) (dV 1)) a0))) a0))))
theorem ok_both {f : Addr} {fd : FuncData} {k : Nat} (F : Fun K "_both" "_both" s_both f fd) (M : Names mg) (Z : CtxN P w K mg S) (TNumber : ClsC K (S.cl 0) ["tower", "element"]) (TField : ClsC K (S.cl 1) ["tower", "known_roots"]) {ctogether : List D → Option D} (Gtogether : Cal P w K mg base k "together" ["one", "other"] (SpD S.cls ctogether)) : FnOk P w K mg base CX0 (k + 1) f fd ["one", "other"] (SpD S.cls (runD 2 2 (den_both ctogether))) :=
  fn_den F sc_both fun cdv A outer s H E hr => (ds_one (ds_ret (dn_call Gtogether.ok hr (by rfl) Gtogether.m Gtogether.kp Gtogether.b pass0 (da_cons (dn_tup (da_cons (dn_tower Z.N.cls Z.N.nt (dn_var (i := 0))) (da_cons (dn_element Z.N.cls Z.N.ne (dn_var (i := 0))) da_nil))) (da_cons (dn_tup (da_cons (dn_tower Z.N.cls Z.N.nt (dn_var (i := 1))) (da_cons (dn_element Z.N.cls Z.N.ne (dn_var (i := 1))) da_nil))) da_nil)))))
abbrev s_order : Stmt := topS 75
abbrev N_order : List Str := ["one", "other", "found", "tower", "first", "second"]
theorem sc_order : FnScope N_order ["one", "other"] (defScope s_order) := ⟨rfl, rfl, rfl, by decide +kernel, rfl, by decide +kernel, by decide +kernel⟩
def den_order (capart : List D → Option D) (c_both : List D → Option D) (celement_difference : List D → Option D) (csign_of : List D → Option D) : List Sl → Option Out :=
  (sSeq (sIf (dAsB (d2 fNe (d1 (fNumF true) (dV 0)) (d1 (fNumF true) (dV 1))))
    (sSeq (sSet 2 (dCall capart (ac (dTup (ac (d1 (fNumF true) (dV 0)) (ac (d1 (fNumF false) (dV 0)) a0))) (ac (dTup (ac (d1 (fNumF true) (dV 1)) (ac (d1 (fNumF false) (dV 1)) a0))) a0))))
    (sIf (dAsB (d2 fNe (dV 2) (dK (.int 0))))
      (sRet (dV 2))
      sNext))
    sNext)
  (sSeq (sAsg (dCall c_both (ac (dV 0) (ac (dV 1) a0))) (gTu 3 (gcons (gN 3) (gcons (gN 4) (gcons (gN 5) gnil)))))
  (sRet (dCall csign_of (ac (dV 3) (ac (d2 fIx (dCall celement_difference (ac (dV 4) (ac (dV 5) a0))) (dK (.int 0))) a0))))))
theorem ok_order {f : Addr} {fd : FuncData} {k : Nat} (F : Fun K "_order" "_order" s_order f fd) (M : Names mg) (Z : CtxN P w K mg S) (TNumber : ClsC K (S.cl 0) ["tower", "element"]) (TField : ClsC K (S.cl 1) ["tower", "known_roots"]) {capart : List D → Option D} {c_both : List D → Option D} {celement_difference : List D → Option D} {csign_of : List D → Option D} (Gapart : Cal P w K mg base k "apart" ["one", "other"] (SpD S.cls capart)) (G_both : Cal P w K mg base k "_both" ["one", "other"] (SpD S.cls c_both)) (Gelement_difference : Cal P w K mg base k "element_difference" ["one", "other"] (SpD S.cls celement_difference)) (Gsign_of : Cal P w K mg base k "sign_of" ["tower", "vector"] (SpD S.cls csign_of)) : FnOk P w K mg base CX0 (k + 1) f fd ["one", "other"] (SpD S.cls (runD 2 6 (den_order capart c_both celement_difference csign_of))) :=
  fn_den F sc_order fun cdv A outer s H E hr => (ds_cons (ds_if (dt_ne hr.units (dn_tower Z.N.cls Z.N.nt (dn_var (i := 0))) (dn_tower Z.N.cls Z.N.nt (dn_var (i := 1))))
    (ds_cons (ds_set (i := 2) sc_order.nd (dn_call Gapart.ok hr (by rfl) Gapart.m Gapart.kp Gapart.b pass0 (da_cons (dn_tup (da_cons (dn_tower Z.N.cls Z.N.nt (dn_var (i := 0))) (da_cons (dn_element Z.N.cls Z.N.ne (dn_var (i := 0))) da_nil))) (da_cons (dn_tup (da_cons (dn_tower Z.N.cls Z.N.nt (dn_var (i := 1))) (da_cons (dn_element Z.N.cls Z.N.ne (dn_var (i := 1))) da_nil))) da_nil))))
    (ds_one (ds_if (dt_ne hr.units (dn_var (i := 2)) dn_int)
      (ds_one (ds_ret (dn_var (i := 2))))
      ds_nil)))
    ds_nil)
  (ds_cons (ds_asg (dn_call G_both.ok hr (by rfl) G_both.m G_both.kp G_both.b pass0 (da_cons (dn_var (i := 0)) (da_cons (dn_var (i := 1)) da_nil))) (dg_tup rfl (dg_cons (dg_name (i := 3) sc_order.nd) (dg_cons (dg_name (i := 4) sc_order.nd) (dg_cons (dg_name (i := 5) sc_order.nd) dg_nil)))))
  (ds_one (ds_ret (dn_call Gsign_of.ok hr (by rfl) Gsign_of.m Gsign_of.kp Gsign_of.b pass0 (da_cons (dn_var (i := 3)) (da_cons (dn_sub_ix (dn_call Gelement_difference.ok hr (by rfl) Gelement_difference.m Gelement_difference.kp Gelement_difference.b pass0 (da_cons (dn_var (i := 4)) (da_cons (dn_var (i := 5)) da_nil))) dn_int (fun _ _ => rfl)) da_nil)))))))
abbrev sNumber___add__ : Stmt := inCls (topS 72) 1
abbrev NNumber___add__ : List Str := ["self", "other", "tower", "one", "second"]
theorem scNumber___add__ : FnScope NNumber___add__ ["self", "other"] (defScope sNumber___add__) := ⟨rfl, rfl, rfl, by decide +kernel, rfl, by decide +kernel, by decide +kernel⟩
def denNumber___add__ (c_both : List D → Option D) (celement_sum : List D → Option D) (cnumber_in : List D → Option D) : List Sl → Option Out :=
  (sSeq (sIf (bNot (dTru (d1 fIsNum (dV 1))))
    sNone
    sNext)
  (sSeq (sAsg (dCall c_both (ac (dV 0) (ac (dV 1) a0))) (gTu 3 (gcons (gN 2) (gcons (gN 3) (gcons (gN 4) gnil)))))
  (sRet (dCall cnumber_in (ac (dV 2) (ac (dCall celement_sum (ac (dV 3) (ac (dV 4) a0))) a0))))))
theorem okNumber___add__ {f : Addr} {fd : FuncData} {k : Nat} (F : Fun K "__add__" "Number.__add__" sNumber___add__ f fd) (M : Names mg) (Z : CtxN P w K mg S) (TNumber : ClsC K (S.cl 0) ["tower", "element"]) (TField : ClsC K (S.cl 1) ["tower", "known_roots"]) {c_both : List D → Option D} {celement_sum : List D → Option D} {cnumber_in : List D → Option D} (G_both : Cal P w K mg base k "_both" ["one", "other"] (SpD S.cls c_both)) (Gelement_sum : Cal P w K mg base k "element_sum" ["one", "other"] (SpD S.cls celement_sum)) (Gnumber_in : Cal P w K mg base k "number_in" ["tower", "element"] (SpD S.cls cnumber_in)) : FnOk P w K mg base CX0 (k + 1) f fd ["self", "other"] (SpD S.cls (runD 2 5 (denNumber___add__ c_both celement_sum cnumber_in))) :=
  fn_den F scNumber___add__ fun cdv A outer s H E hr => (ds_cons (ds_if (dt_not (dt_truth (dn_isNum Z.N.is (by rfl) M.isinstance (by rfl) Z.N.g (dn_var (i := 1)))))
    (ds_one ds_nev)
    ds_nil)
  (ds_cons (ds_asg (dn_call G_both.ok hr (by rfl) G_both.m G_both.kp G_both.b pass0 (da_cons (dn_var (i := 0)) (da_cons (dn_var (i := 1)) da_nil))) (dg_tup rfl (dg_cons (dg_name (i := 2) scNumber___add__.nd) (dg_cons (dg_name (i := 3) scNumber___add__.nd) (dg_cons (dg_name (i := 4) scNumber___add__.nd) dg_nil)))))
  (ds_one (ds_ret (dn_call Gnumber_in.ok hr (by rfl) Gnumber_in.m Gnumber_in.kp Gnumber_in.b pass0 (da_cons (dn_var (i := 2)) (da_cons (dn_call Gelement_sum.ok hr (by rfl) Gelement_sum.m Gelement_sum.kp Gelement_sum.b pass0 (da_cons (dn_var (i := 3)) (da_cons (dn_var (i := 4)) da_nil))) da_nil)))))))
abbrev sNumber___sub__ : Stmt := inCls (topS 72) 2
abbrev NNumber___sub__ : List Str := ["self", "other", "tower", "one", "second"]
theorem scNumber___sub__ : FnScope NNumber___sub__ ["self", "other"] (defScope sNumber___sub__) := ⟨rfl, rfl, rfl, by decide +kernel, rfl, by decide +kernel, by decide +kernel⟩
def denNumber___sub__ (c_both : List D → Option D) (celement_difference : List D → Option D) (cnumber_in : List D → Option D) : List Sl → Option Out :=
  (sSeq (sIf (bNot (dTru (d1 fIsNum (dV 1))))
    sNone
    sNext)
  (sSeq (sAsg (dCall c_both (ac (dV 0) (ac (dV 1) a0))) (gTu 3 (gcons (gN 2) (gcons (gN 3) (gcons (gN 4) gnil)))))
  (sRet (dCall cnumber_in (ac (dV 2) (ac (dCall celement_difference (ac (dV 3) (ac (dV 4) a0))) a0))))))
theorem okNumber___sub__ {f : Addr} {fd : FuncData} {k : Nat} (F : Fun K "__sub__" "Number.__sub__" sNumber___sub__ f fd) (M : Names mg) (Z : CtxN P w K mg S) (TNumber : ClsC K (S.cl 0) ["tower", "element"]) (TField : ClsC K (S.cl 1) ["tower", "known_roots"]) {c_both : List D → Option D} {celement_difference : List D → Option D} {cnumber_in : List D → Option D} (G_both : Cal P w K mg base k "_both" ["one", "other"] (SpD S.cls c_both)) (Gelement_difference : Cal P w K mg base k "element_difference" ["one", "other"] (SpD S.cls celement_difference)) (Gnumber_in : Cal P w K mg base k "number_in" ["tower", "element"] (SpD S.cls cnumber_in)) : FnOk P w K mg base CX0 (k + 1) f fd ["self", "other"] (SpD S.cls (runD 2 5 (denNumber___sub__ c_both celement_difference cnumber_in))) :=
  fn_den F scNumber___sub__ fun cdv A outer s H E hr => (ds_cons (ds_if (dt_not (dt_truth (dn_isNum Z.N.is (by rfl) M.isinstance (by rfl) Z.N.g (dn_var (i := 1)))))
    (ds_one ds_nev)
    ds_nil)
  (ds_cons (ds_asg (dn_call G_both.ok hr (by rfl) G_both.m G_both.kp G_both.b pass0 (da_cons (dn_var (i := 0)) (da_cons (dn_var (i := 1)) da_nil))) (dg_tup rfl (dg_cons (dg_name (i := 2) scNumber___sub__.nd) (dg_cons (dg_name (i := 3) scNumber___sub__.nd) (dg_cons (dg_name (i := 4) scNumber___sub__.nd) dg_nil)))))
  (ds_one (ds_ret (dn_call Gnumber_in.ok hr (by rfl) Gnumber_in.m Gnumber_in.kp Gnumber_in.b pass0 (da_cons (dn_var (i := 2)) (da_cons (dn_call Gelement_difference.ok hr (by rfl) Gelement_difference.m Gelement_difference.kp Gelement_difference.b pass0 (da_cons (dn_var (i := 3)) (da_cons (dn_var (i := 4)) da_nil))) da_nil)))))))
abbrev sNumber___mul__ : Stmt := inCls (topS 72) 3
abbrev NNumber___mul__ : List Str := ["self", "other", "tower", "one", "second"]
theorem scNumber___mul__ : FnScope NNumber___mul__ ["self", "other"] (defScope sNumber___mul__) := ⟨rfl, rfl, rfl, by decide +kernel, rfl, by decide +kernel, by decide +kernel⟩
def denNumber___mul__ (c_both : List D → Option D) (celement_product : List D → Option D) (cnumber_in : List D → Option D) : List Sl → Option Out :=
  (sSeq (sIf (bNot (dTru (d1 fIsNum (dV 1))))
    sNone
    sNext)
  (sSeq (sAsg (dCall c_both (ac (dV 0) (ac (dV 1) a0))) (gTu 3 (gcons (gN 2) (gcons (gN 3) (gcons (gN 4) gnil)))))
  (sRet (dCall cnumber_in (ac (dV 2) (ac (dCall celement_product (ac (dV 2) (ac (dV 3) (ac (dV 4) a0)))) a0))))))
theorem okNumber___mul__ {f : Addr} {fd : FuncData} {k : Nat} (F : Fun K "__mul__" "Number.__mul__" sNumber___mul__ f fd) (M : Names mg) (Z : CtxN P w K mg S) (TNumber : ClsC K (S.cl 0) ["tower", "element"]) (TField : ClsC K (S.cl 1) ["tower", "known_roots"]) {c_both : List D → Option D} {celement_product : List D → Option D} {cnumber_in : List D → Option D} (G_both : Cal P w K mg base k "_both" ["one", "other"] (SpD S.cls c_both)) (Gelement_product : Cal P w K mg base k "element_product" ["tower", "one", "other"] (SpD S.cls celement_product)) (Gnumber_in : Cal P w K mg base k "number_in" ["tower", "element"] (SpD S.cls cnumber_in)) : FnOk P w K mg base CX0 (k + 1) f fd ["self", "other"] (SpD S.cls (runD 2 5 (denNumber___mul__ c_both celement_product cnumber_in))) :=
  fn_den F scNumber___mul__ fun cdv A outer s H E hr => (ds_cons (ds_if (dt_not (dt_truth (dn_isNum Z.N.is (by rfl) M.isinstance (by rfl) Z.N.g (dn_var (i := 1)))))
    (ds_one ds_nev)
    ds_nil)
  (ds_cons (ds_asg (dn_call G_both.ok hr (by rfl) G_both.m G_both.kp G_both.b pass0 (da_cons (dn_var (i := 0)) (da_cons (dn_var (i := 1)) da_nil))) (dg_tup rfl (dg_cons (dg_name (i := 2) scNumber___mul__.nd) (dg_cons (dg_name (i := 3) scNumber___mul__.nd) (dg_cons (dg_name (i := 4) scNumber___mul__.nd) dg_nil)))))
  (ds_one (ds_ret (dn_call Gnumber_in.ok hr (by rfl) Gnumber_in.m Gnumber_in.kp Gnumber_in.b pass0 (da_cons (dn_var (i := 2)) (da_cons (dn_call Gelement_product.ok hr (by rfl) Gelement_product.m Gelement_product.kp Gelement_product.b pass0 (da_cons (dn_var (i := 2)) (da_cons (dn_var (i := 3)) (da_cons (dn_var (i := 4)) da_nil)))) da_nil)))))))
abbrev sNumber___eq__ : Stmt := inCls (topS 72) 5
abbrev NNumber___eq__ : List Str := ["self", "other"]
theorem scNumber___eq__ : FnScope NNumber___eq__ ["self", "other"] (defScope sNumber___eq__) := ⟨rfl, rfl, rfl, by decide +kernel, rfl, by decide +kernel, by decide +kernel⟩
def denNumber___eq__ (c_order : List D → Option D) : List Sl → Option Out :=
  (sRet (vAnd (d1 fIsNum (dV 1)) (d2 fEq (dCall c_order (ac (dV 0) (ac (dV 1) a0))) (dK (.int 0)))))
theorem okNumber___eq__ {f : Addr} {fd : FuncData} {k : Nat} (F : Fun K "__eq__" "Number.__eq__" sNumber___eq__ f fd) (M : Names mg) (Z : CtxN P w K mg S) (TNumber : ClsC K (S.cl 0) ["tower", "element"]) (TField : ClsC K (S.cl 1) ["tower", "known_roots"]) {c_order : List D → Option D} (G_order : Cal P w K mg base k "_order" ["one", "other"] (SpD S.cls c_order)) : FnOk P w K mg base CX0 (k + 1) f fd ["self", "other"] (SpD S.cls (runD 2 2 (denNumber___eq__ c_order))) :=
  fn_den F scNumber___eq__ fun cdv A outer s H E hr => (ds_one (ds_ret (dn_andV (dn_isNum Z.N.is (by rfl) M.isinstance (by rfl) Z.N.g (dn_var (i := 1))) (dn_one (dn_eq hr.units (dn_call G_order.ok hr (by rfl) G_order.m G_order.kp G_order.b pass0 (da_cons (dn_var (i := 0)) (da_cons (dn_var (i := 1)) da_nil))) dn_int)))))
abbrev sNumber_below : Stmt := inCls (topS 72) 6
abbrev NNumber_below : List Str := ["self", "other"]
theorem scNumber_below : FnScope NNumber_below ["self", "other"] (defScope sNumber_below) := ⟨rfl, rfl, rfl, by decide +kernel, rfl, by decide +kernel, by decide +kernel⟩
def denNumber_below (c_order : List D → Option D) : List Sl → Option Out :=
  (sRet (d2 fLtA (dCall c_order (ac (dV 0) (ac (dV 1) a0))) (dK (.int 0))))
theorem okNumber_below {f : Addr} {fd : FuncData} {k : Nat} (F : Fun K "below" "Number.below" sNumber_below f fd) (M : Names mg) (Z : CtxN P w K mg S) (TNumber : ClsC K (S.cl 0) ["tower", "element"]) (TField : ClsC K (S.cl 1) ["tower", "known_roots"]) {c_order : List D → Option D} (G_order : Cal P w K mg base k "_order" ["one", "other"] (SpD S.cls c_order)) : FnOk P w K mg base CX0 (k + 1) f fd ["self", "other"] (SpD S.cls (runD 2 2 (denNumber_below c_order))) :=
  fn_den F scNumber_below fun cdv A outer s H E hr => (ds_one (ds_ret (dn_ltA hr.units0 (dn_call G_order.ok hr (by rfl) G_order.m G_order.kp G_order.b pass0 (da_cons (dn_var (i := 0)) (da_cons (dn_var (i := 1)) da_nil))) dn_int)))
abbrev sNumber_polynomial : Stmt := inCls (topS 72) 11
abbrev NNumber_polynomial : List Str := ["self"]
theorem scNumber_polynomial : FnScope NNumber_polynomial ["self"] (defScope sNumber_polynomial) := ⟨rfl, rfl, rfl, by decide +kernel, rfl, by decide +kernel, by decide +kernel⟩
def denNumber_polynomial (cleast_polynomial : List D → Option D) : List Sl → Option Out :=
  (sRet (dCall cleast_polynomial (ac (d1 (fNumF true) (dV 0)) (ac (d1 (fNumF false) (dV 0)) a0))))
theorem okNumber_polynomial {f : Addr} {fd : FuncData} {k : Nat} (F : Fun K "polynomial" "Number.polynomial" sNumber_polynomial f fd) (M : Names mg) (Z : CtxN P w K mg S) (TNumber : ClsC K (S.cl 0) ["tower", "element"]) (TField : ClsC K (S.cl 1) ["tower", "known_roots"]) {cleast_polynomial : List D → Option D} (Gleast_polynomial : Cal P w K mg base k "least_polynomial" ["tower", "element"] (SpD S.cls cleast_polynomial)) : FnOk P w K mg base CX0 (k + 1) f fd ["self"] (SpD S.cls (runD 1 1 (denNumber_polynomial cleast_polynomial))) :=
  fn_den F scNumber_polynomial fun cdv A outer s H E hr => (ds_one (ds_ret (dn_call Gleast_polynomial.ok hr (by rfl) Gleast_polynomial.m Gleast_polynomial.kp Gleast_polynomial.b pass0 (da_cons (dn_tower Z.N.cls Z.N.nt (dn_var (i := 0))) (da_cons (dn_element Z.N.cls Z.N.ne (dn_var (i := 0))) da_nil)))))
abbrev sNumber_degree : Stmt := inCls (topS 72) 12
abbrev NNumber_degree : List Str := ["self"]
theorem scNumber_degree : FnScope NNumber_degree ["self"] (defScope sNumber_degree) := ⟨rfl, rfl, rfl, by decide +kernel, rfl, by decide +kernel, by decide +kernel⟩
def denNumber_degree (cNumber_polynomial : List D → Option D) : List Sl → Option Out :=
  (sRet (d2 fSub (dCall fLen (ac (dMethN cNumber_polynomial (dV 0) a0) a0)) (dK (.int 1))))
theorem okNumber_degree {f : Addr} {fd : FuncData} {k : Nat} (F : Fun K "degree" "Number.degree" sNumber_degree f fd) (M : Names mg) (Z : CtxN P w K mg S) (TNumber : ClsC K (S.cl 0) ["tower", "element"]) (TField : ClsC K (S.cl 1) ["tower", "known_roots"]) {cNumber_polynomial : List D → Option D} (GNumber_polynomial : MCal P w K mg base k S.cls "polynomial" ["self"] (SpD S.cls cNumber_polynomial)) : FnOk P w K mg base CX0 (k + 1) f fd ["self"] (SpD S.cls (runD 1 1 (denNumber_degree cNumber_polynomial))) :=
  fn_den F scNumber_degree fun cdv A outer s H E hr => (ds_one (ds_ret (dn_sub (dn_callB is_len call_len_seq (by rfl) M.len PySem.boot_len (da_cons (dn_methN0 (dn_var (i := 0)) Z.N.cls GNumber_polynomial.m GNumber_polynomial.ok hr GNumber_polynomial.b pass0) da_nil)) dn_int)))
abbrev sNumber_place : Stmt := inCls (topS 72) 13
abbrev NNumber_place : List Str := ["self", "tower", "element"]
theorem scNumber_place : FnScope NNumber_place ["self"] (defScope sNumber_place) := ⟨rfl, rfl, rfl, by decide +kernel, rfl, by decide +kernel, by decide +kernel⟩
def denNumber_place (cleast_field : List D → Option D) (cplace_of : List D → Option D) : List Sl → Option Out :=
  (sSeq (sAsg (dCall cleast_field (ac (d1 (fNumF true) (dV 0)) (ac (d1 (fNumF false) (dV 0)) a0))) (gTu 2 (gcons (gN 1) (gcons (gN 2) gnil))))
  (sRet (dCall cplace_of (ac (dV 1) (ac (d2 fIx (dV 2) (dK (.int 0))) a0)))))
theorem okNumber_place {f : Addr} {fd : FuncData} {k : Nat} (F : Fun K "place" "Number.place" sNumber_place f fd) (M : Names mg) (Z : CtxN P w K mg S) (TNumber : ClsC K (S.cl 0) ["tower", "element"]) (TField : ClsC K (S.cl 1) ["tower", "known_roots"]) {cleast_field : List D → Option D} {cplace_of : List D → Option D} (Gleast_field : Cal P w K mg base k "least_field" ["tower", "element"] (SpD S.cls cleast_field)) (Gplace_of : Cal P w K mg base k "place_of" ["tower", "vector"] (SpD S.cls cplace_of)) : FnOk P w K mg base CX0 (k + 1) f fd ["self"] (SpD S.cls (runD 1 3 (denNumber_place cleast_field cplace_of))) :=
  fn_den F scNumber_place fun cdv A outer s H E hr => (ds_cons (ds_asg (dn_call Gleast_field.ok hr (by rfl) Gleast_field.m Gleast_field.kp Gleast_field.b pass0 (da_cons (dn_tower Z.N.cls Z.N.nt (dn_var (i := 0))) (da_cons (dn_element Z.N.cls Z.N.ne (dn_var (i := 0))) da_nil))) (dg_tup rfl (dg_cons (dg_name (i := 1) scNumber_place.nd) (dg_cons (dg_name (i := 2) scNumber_place.nd) dg_nil))))
  (ds_one (ds_ret (dn_call Gplace_of.ok hr (by rfl) Gplace_of.m Gplace_of.kp Gplace_of.b pass0 (da_cons (dn_var (i := 1)) (da_cons (dn_sub_ix (dn_var (i := 2)) dn_int (fun _ _ => rfl)) da_nil))))))
end
end K31

set_option maxHeartbeats 4000000
namespace K31
open PySem PySem.Spec PyProof.Rows L2 KG DN
section
variable {P : Program} {w : World} {K : PySem.W.Frag} {mg : Str → Option Value} {base : Heap} {S : CS}
abbrev sField___init__ : Stmt := inCls (topS 77) 0
abbrev NField___init__ : List Str := ["self"]
theorem scField___init__ : FnScope NField___init__ ["self"] (defScope sField___init__) := ⟨rfl, rfl, rfl, by decide +kernel, rfl, by decide +kernel, by decide +kernel⟩
def denField___init__ : ZS :=
  (ySeq (yAsg (lf (dTup a0)) (yAtt 1 "tower" (lf (dV 0))))
  (yAsg zDict (yAtt 1 "known_roots" (lf (dV 0)))))
theorem okField___init__ {f : Addr} {fd : FuncData} {k : Nat} (F : Fun K "__init__" "Field.__init__" sField___init__ f fd) (M : Names mg) (Z : CtxN P w K mg S) (TNumber : ClsC K (S.cl 0) ["tower", "element"]) (TField : ClsC K (S.cl 1) ["tower", "known_roots"]) : FnOk P w K mg base CX0 (k + 1) f fd ["self"] (SpS S (runS 1 1 (denField___init__))) :=
  fnS_den F scField___init__ fun cdv A outer s H E hr => (zs_cons (zs_asg (zl (dn_tup da_nil)) (zg_att (t := 1) TField.cl (TField.na _ (by simp)) (zl (dn_var (i := 0)))))
  (zs_one (zs_asg (zn_dict Z.hP Z.hw) (zg_att (t := 1) TField.cl (TField.na _ (by simp)) (zl (dn_var (i := 0)))))))
abbrev sField_number : Stmt := inCls (topS 77) 2
abbrev NField_number : List Str := ["self", "element"]
theorem scField_number : FnScope NField_number ["self", "element"] (defScope sField_number) := ⟨rfl, rfl, rfl, by decide +kernel, rfl, by decide +kernel, by decide +kernel⟩
def denField_number (cnumber_in : List D → Option D) : ZS :=
  (yRet (zCallP cnumber_in (yc (zSl (zFld 1 "tower" (lf (dV 0))) (lf p0) (zp1 (lf (d2 fSub (d1 fBits (dCall fLen (ac (d2 fIx (dV 1) (dK (.int 0))) a0))) (dK (.int 1)))))) (yc (lf (dV 1)) y0))))
theorem okField_number {f : Addr} {fd : FuncData} {k : Nat} (F : Fun K "number" "Field.number" sField_number f fd) (M : Names mg) (Z : CtxN P w K mg S) (TNumber : ClsC K (S.cl 0) ["tower", "element"]) (TField : ClsC K (S.cl 1) ["tower", "known_roots"]) {cnumber_in : List D → Option D} (Gnumber_in : Cal P w K mg base k "number_in" ["tower", "element"] (SpD S.cls cnumber_in)) : FnOk P w K mg base CX0 (k + 1) f fd ["self", "element"] (SpS S (runS 2 2 (denField_number cnumber_in))) :=
  fnS_den F scField_number fun cdv A outer s H E hr => (zs_one (zs_ret (zn_callP Gnumber_in.ok hr (by rfl) Gnumber_in.m Gnumber_in.kp Gnumber_in.b pass0 (za_cons (zn_slice (zn_fld (t := 1) TField.cl (TField.na _ (by simp)) (zl (dn_var (i := 0)))) (zlo dp_none) (zo_some (zl (dn_sub (dn_bits (dn_callB is_len call_len_seq (by rfl) M.len PySem.boot_len (da_cons (dn_sub_ix (dn_var (i := 1)) dn_int (fun _ _ => rfl)) da_nil))) dn_int)))) (za_cons (zl (dn_var (i := 1))) za_nil)))))
abbrev sField_plus : Stmt := inCls (topS 77) 3
abbrev NField_plus : List Str := ["self", "one", "other"]
theorem scField_plus : FnScope NField_plus ["self", "one", "other"] (defScope sField_plus) := ⟨rfl, rfl, rfl, by decide +kernel, rfl, by decide +kernel, by decide +kernel⟩
def denField_plus (c_alike : List D → Option D) (celement_sum : List D → Option D) (c_shortest : List D → Option D) : ZS :=
  (lf (sSeq (sAsg (dCall c_alike (ac (dV 1) (ac (dV 2) a0))) (gTu 2 (gcons (gN 1) (gcons (gN 2) gnil))))
  (sRet (dCall c_shortest (ac (dCall celement_sum (ac (dV 1) (ac (dV 2) a0))) a0)))))
theorem okField_plus {f : Addr} {fd : FuncData} {k : Nat} (F : Fun K "plus" "Field.plus" sField_plus f fd) (M : Names mg) (Z : CtxN P w K mg S) (TNumber : ClsC K (S.cl 0) ["tower", "element"]) (TField : ClsC K (S.cl 1) ["tower", "known_roots"]) {c_alike : List D → Option D} {celement_sum : List D → Option D} {c_shortest : List D → Option D} (G_alike : Cal P w K mg base k "_alike" ["one", "other"] (SpD S.cls c_alike)) (Gelement_sum : Cal P w K mg base k "element_sum" ["one", "other"] (SpD S.cls celement_sum)) (G_shortest : Cal P w K mg base k "_shortest" ["element"] (SpD S.cls c_shortest)) : FnOk P w K mg base CX0 (k + 1) f fd ["self", "one", "other"] (SpS S (runS 3 3 (denField_plus c_alike celement_sum c_shortest))) :=
  fnS_den F scField_plus fun cdv A outer s H E hr => (zss (ds_cons (ds_asg (dn_call G_alike.ok hr (by rfl) G_alike.m G_alike.kp G_alike.b pass0 (da_cons (dn_var (i := 1)) (da_cons (dn_var (i := 2)) da_nil))) (dg_tup rfl (dg_cons (dg_name (i := 1) scField_plus.nd) (dg_cons (dg_name (i := 2) scField_plus.nd) dg_nil))))
  (ds_one (ds_ret (dn_call G_shortest.ok hr (by rfl) G_shortest.m G_shortest.kp G_shortest.b pass0 (da_cons (dn_call Gelement_sum.ok hr (by rfl) Gelement_sum.m Gelement_sum.kp Gelement_sum.b pass0 (da_cons (dn_var (i := 1)) (da_cons (dn_var (i := 2)) da_nil))) da_nil))))))
abbrev sField_minus : Stmt := inCls (topS 77) 4
abbrev NField_minus : List Str := ["self", "one", "other"]
theorem scField_minus : FnScope NField_minus ["self", "one", "other"] (defScope sField_minus) := ⟨rfl, rfl, rfl, by decide +kernel, rfl, by decide +kernel, by decide +kernel⟩
def denField_minus (c_alike : List D → Option D) (celement_difference : List D → Option D) (c_shortest : List D → Option D) : ZS :=
  (lf (sSeq (sAsg (dCall c_alike (ac (dV 1) (ac (dV 2) a0))) (gTu 2 (gcons (gN 1) (gcons (gN 2) gnil))))
  (sRet (dCall c_shortest (ac (dCall celement_difference (ac (dV 1) (ac (dV 2) a0))) a0)))))
theorem okField_minus {f : Addr} {fd : FuncData} {k : Nat} (F : Fun K "minus" "Field.minus" sField_minus f fd) (M : Names mg) (Z : CtxN P w K mg S) (TNumber : ClsC K (S.cl 0) ["tower", "element"]) (TField : ClsC K (S.cl 1) ["tower", "known_roots"]) {c_alike : List D → Option D} {celement_difference : List D → Option D} {c_shortest : List D → Option D} (G_alike : Cal P w K mg base k "_alike" ["one", "other"] (SpD S.cls c_alike)) (Gelement_difference : Cal P w K mg base k "element_difference" ["one", "other"] (SpD S.cls celement_difference)) (G_shortest : Cal P w K mg base k "_shortest" ["element"] (SpD S.cls c_shortest)) : FnOk P w K mg base CX0 (k + 1) f fd ["self", "one", "other"] (SpS S (runS 3 3 (denField_minus c_alike celement_difference c_shortest))) :=
  fnS_den F scField_minus fun cdv A outer s H E hr => (zss (ds_cons (ds_asg (dn_call G_alike.ok hr (by rfl) G_alike.m G_alike.kp G_alike.b pass0 (da_cons (dn_var (i := 1)) (da_cons (dn_var (i := 2)) da_nil))) (dg_tup rfl (dg_cons (dg_name (i := 1) scField_minus.nd) (dg_cons (dg_name (i := 2) scField_minus.nd) dg_nil))))
  (ds_one (ds_ret (dn_call G_shortest.ok hr (by rfl) G_shortest.m G_shortest.kp G_shortest.b pass0 (da_cons (dn_call Gelement_difference.ok hr (by rfl) Gelement_difference.m Gelement_difference.kp Gelement_difference.b pass0 (da_cons (dn_var (i := 1)) (da_cons (dn_var (i := 2)) da_nil))) da_nil))))))
abbrev sField_product : Stmt := inCls (topS 77) 5
abbrev NField_product : List Str := ["self", "one", "other"]
theorem scField_product : FnScope NField_product ["self", "one", "other"] (defScope sField_product) := ⟨rfl, rfl, rfl, by decide +kernel, rfl, by decide +kernel, by decide +kernel⟩
def denField_product (c_alike : List D → Option D) (c_shortest : List D → Option D) (celement_product : List D → Option D) : ZS :=
  (ySeq (lf (sAsg (dCall c_alike (ac (dV 1) (ac (dV 2) a0))) (gTu 2 (gcons (gN 1) (gcons (gN 2) gnil)))))
  (yRet (zCallP c_shortest (yc (zCallP celement_product (yc (zFld 1 "tower" (lf (dV 0))) (yc (lf (dV 1)) (yc (lf (dV 2)) y0)))) y0))))
theorem okField_product {f : Addr} {fd : FuncData} {k : Nat} (F : Fun K "product" "Field.product" sField_product f fd) (M : Names mg) (Z : CtxN P w K mg S) (TNumber : ClsC K (S.cl 0) ["tower", "element"]) (TField : ClsC K (S.cl 1) ["tower", "known_roots"]) {c_alike : List D → Option D} {c_shortest : List D → Option D} {celement_product : List D → Option D} (G_alike : Cal P w K mg base k "_alike" ["one", "other"] (SpD S.cls c_alike)) (G_shortest : Cal P w K mg base k "_shortest" ["element"] (SpD S.cls c_shortest)) (Gelement_product : Cal P w K mg base k "element_product" ["tower", "one", "other"] (SpD S.cls celement_product)) : FnOk P w K mg base CX0 (k + 1) f fd ["self", "one", "other"] (SpS S (runS 3 3 (denField_product c_alike c_shortest celement_product))) :=
  fnS_den F scField_product fun cdv A outer s H E hr => (zs_cons (zs (ds_asg (dn_call G_alike.ok hr (by rfl) G_alike.m G_alike.kp G_alike.b pass0 (da_cons (dn_var (i := 1)) (da_cons (dn_var (i := 2)) da_nil))) (dg_tup rfl (dg_cons (dg_name (i := 1) scField_product.nd) (dg_cons (dg_name (i := 2) scField_product.nd) dg_nil)))))
  (zs_one (zs_ret (zn_callP G_shortest.ok hr (by rfl) G_shortest.m G_shortest.kp G_shortest.b pass0 (za_cons (zn_callP Gelement_product.ok hr (by rfl) Gelement_product.m Gelement_product.kp Gelement_product.b pass0 (za_cons (zn_fld (t := 1) TField.cl (TField.na _ (by simp)) (zl (dn_var (i := 0)))) (za_cons (zl (dn_var (i := 1))) (za_cons (zl (dn_var (i := 2))) za_nil)))) za_nil)))))
abbrev sField_inverted : Stmt := inCls (topS 77) 7
abbrev NField_inverted : List Str := ["self", "element", "vector", "scale", "turned", "divider"]
theorem scField_inverted : FnScope NField_inverted ["self", "element"] (defScope sField_inverted) := ⟨rfl, rfl, rfl, by decide +kernel, rfl, by decide +kernel, by decide +kernel⟩
def denField_inverted (cinverse : List D → Option D) (ctimes : List D → Option D) (clowest : List D → Option D) (c_shortest : List D → Option D) : ZS :=
  (ySeq (lf (sAsg (dV 1) (gTu 2 (gcons (gN 2) (gcons (gN 3) gnil)))))
  (ySeq (yAsg (zCallP cinverse (yc (zFld 1 "tower" (lf (dV 0))) (yc (lf (dV 2)) y0))) (lg (gTu 2 (gcons (gN 4) (gcons (gN 5) gnil)))))
  (lf (sRet (dCall c_shortest (ac (dCall clowest (ac (dCall ctimes (ac (dV 4) (ac (dV 3) a0))) (ac (dV 5) a0))) a0))))))
theorem okField_inverted {f : Addr} {fd : FuncData} {k : Nat} (F : Fun K "inverted" "Field.inverted" sField_inverted f fd) (M : Names mg) (Z : CtxN P w K mg S) (TNumber : ClsC K (S.cl 0) ["tower", "element"]) (TField : ClsC K (S.cl 1) ["tower", "known_roots"]) {cinverse : List D → Option D} {ctimes : List D → Option D} {clowest : List D → Option D} {c_shortest : List D → Option D} (Ginverse : Cal P w K mg base k "inverse" ["tower", "vector"] (SpD S.cls cinverse)) (Gtimes : Cal P w K mg base k "times" ["vector", "factor"] (SpD S.cls ctimes)) (Glowest : Cal P w K mg base k "lowest" ["vector", "scale"] (SpD S.cls clowest)) (G_shortest : Cal P w K mg base k "_shortest" ["element"] (SpD S.cls c_shortest)) : FnOk P w K mg base CX0 (k + 1) f fd ["self", "element"] (SpS S (runS 2 6 (denField_inverted cinverse ctimes clowest c_shortest))) :=
  fnS_den F scField_inverted fun cdv A outer s H E hr => (zs_cons (zs (ds_asg (dn_var (i := 1)) (dg_tup rfl (dg_cons (dg_name (i := 2) scField_inverted.nd) (dg_cons (dg_name (i := 3) scField_inverted.nd) dg_nil)))))
  (zs_cons (zs_asg (zn_callP Ginverse.ok hr (by rfl) Ginverse.m Ginverse.kp Ginverse.b pass0 (za_cons (zn_fld (t := 1) TField.cl (TField.na _ (by simp)) (zl (dn_var (i := 0)))) (za_cons (zl (dn_var (i := 2))) za_nil))) (zg (dg_tup rfl (dg_cons (dg_name (i := 4) scField_inverted.nd) (dg_cons (dg_name (i := 5) scField_inverted.nd) dg_nil)))))
  (zss (ds_one (ds_ret (dn_call G_shortest.ok hr (by rfl) G_shortest.m G_shortest.kp G_shortest.b pass0 (da_cons (dn_call Glowest.ok hr (by rfl) Glowest.m Glowest.kp Glowest.b pass0 (da_cons (dn_call Gtimes.ok hr (by rfl) Gtimes.m Gtimes.kp Gtimes.b pass0 (da_cons (dn_var (i := 4)) (da_cons (dn_var (i := 3)) da_nil))) (da_cons (dn_var (i := 5)) da_nil))) da_nil)))))))
abbrev sField_quotient : Stmt := inCls (topS 77) 6
abbrev NField_quotient : List Str := ["self", "one", "other"]
theorem scField_quotient : FnScope NField_quotient ["self", "one", "other"] (defScope sField_quotient) := ⟨rfl, rfl, rfl, by decide +kernel, rfl, by decide +kernel, by decide +kernel⟩
def denField_quotient (cField_product : FnS) (cField_inverted : FnS) : ZS :=
  (yRet (zMeth 1 "product" cField_product (lf (dV 0)) (yc (lf (dV 1)) (yc (zMeth 1 "inverted" cField_inverted (lf (dV 0)) (lf (ac (dV 2) a0))) y0))))
theorem okField_quotient {f : Addr} {fd : FuncData} {k : Nat} (F : Fun K "quotient" "Field.quotient" sField_quotient f fd) (M : Names mg) (Z : CtxN P w K mg S) (TNumber : ClsC K (S.cl 0) ["tower", "element"]) (TField : ClsC K (S.cl 1) ["tower", "known_roots"]) {cField_product : FnS} {cField_inverted : FnS} (GField_product : MCal P w K mg base k (S.cl 1) "product" ["self", "one", "other"] (SpS S cField_product)) (GField_inverted : MCal P w K mg base k (S.cl 1) "inverted" ["self", "element"] (SpS S cField_inverted)) : FnOk P w K mg base CX0 (k + 1) f fd ["self", "one", "other"] (SpS S (runS 3 3 (denField_quotient cField_product cField_inverted))) :=
  fnS_den F scField_quotient fun cdv A outer s H E hr => (zs_one (zs_ret (zn_meth (t := 1) (zl (dn_var (i := 0))) TField.cl GField_product.m GField_product.ok hr GField_product.b pass0 (za_cons (zl (dn_var (i := 1))) (za_cons (zn_meth (t := 1) (zl (dn_var (i := 0))) TField.cl GField_inverted.m GField_inverted.ok hr GField_inverted.b pass0 (zla (da_cons (dn_var (i := 2)) da_nil))) za_nil)))))
abbrev sField_negative : Stmt := inCls (topS 77) 8
abbrev NField_negative : List Str := ["self", "element", "vector", "scale"]
theorem scField_negative : FnScope NField_negative ["self", "element"] (defScope sField_negative) := ⟨rfl, rfl, rfl, by decide +kernel, rfl, by decide +kernel, by decide +kernel⟩
def denField_negative (ctimes : List D → Option D) : ZS :=
  (lf (sSeq (sAsg (dV 1) (gTu 2 (gcons (gN 2) (gcons (gN 3) gnil))))
  (sRet (dTup (ac (dCall ctimes (ac (dV 2) (ac (d1 (fI1 fun i => -i) (dK (.int 1))) a0))) (ac (dV 3) a0))))))
theorem okField_negative {f : Addr} {fd : FuncData} {k : Nat} (F : Fun K "negative" "Field.negative" sField_negative f fd) (M : Names mg) (Z : CtxN P w K mg S) (TNumber : ClsC K (S.cl 0) ["tower", "element"]) (TField : ClsC K (S.cl 1) ["tower", "known_roots"]) {ctimes : List D → Option D} (Gtimes : Cal P w K mg base k "times" ["vector", "factor"] (SpD S.cls ctimes)) : FnOk P w K mg base CX0 (k + 1) f fd ["self", "element"] (SpS S (runS 2 4 (denField_negative ctimes))) :=
  fnS_den F scField_negative fun cdv A outer s H E hr => (zss (ds_cons (ds_asg (dn_var (i := 1)) (dg_tup rfl (dg_cons (dg_name (i := 2) scField_negative.nd) (dg_cons (dg_name (i := 3) scField_negative.nd) dg_nil))))
  (ds_one (ds_ret (dn_tup (da_cons (dn_call Gtimes.ok hr (by rfl) Gtimes.m Gtimes.kp Gtimes.b pass0 (da_cons (dn_var (i := 2)) (da_cons (dn_neg dn_int) da_nil))) (da_cons (dn_var (i := 3)) da_nil)))))))
abbrev sField_sign : Stmt := inCls (topS 77) 9
abbrev NField_sign : List Str := ["self", "element"]
theorem scField_sign : FnScope NField_sign ["self", "element"] (defScope sField_sign) := ⟨rfl, rfl, rfl, by decide +kernel, rfl, by decide +kernel, by decide +kernel⟩
def denField_sign (csign_of : List D → Option D) : ZS :=
  (yRet (zCallP csign_of (yc (zFld 1 "tower" (lf (dV 0))) (yc (lf (d2 fIx (dV 1) (dK (.int 0)))) y0))))
theorem okField_sign {f : Addr} {fd : FuncData} {k : Nat} (F : Fun K "sign" "Field.sign" sField_sign f fd) (M : Names mg) (Z : CtxN P w K mg S) (TNumber : ClsC K (S.cl 0) ["tower", "element"]) (TField : ClsC K (S.cl 1) ["tower", "known_roots"]) {csign_of : List D → Option D} (Gsign_of : Cal P w K mg base k "sign_of" ["tower", "vector"] (SpD S.cls csign_of)) : FnOk P w K mg base CX0 (k + 1) f fd ["self", "element"] (SpS S (runS 2 2 (denField_sign csign_of))) :=
  fnS_den F scField_sign fun cdv A outer s H E hr => (zs_one (zs_ret (zn_callP Gsign_of.ok hr (by rfl) Gsign_of.m Gsign_of.kp Gsign_of.b pass0 (za_cons (zn_fld (t := 1) TField.cl (TField.na _ (by simp)) (zl (dn_var (i := 0)))) (za_cons (zl (dn_sub_ix (dn_var (i := 1)) dn_int (fun _ _ => rfl))) za_nil)))))
abbrev sField__found_root : Stmt := inCls (topS 77) 11
abbrev NField__found_root : List Str := ["self", "square", "whole", "root"]
theorem scField__found_root : FnScope NField__found_root ["self", "square"] (defScope sField__found_root) := ⟨rfl, rfl, rfl, by decide +kernel, rfl, by decide +kernel, by decide +kernel⟩
def denField__found_root (cwidened : List D → Option D) (croot_in : List D → Option D) (cadjoined : List D → Option D) (c_shortest : List D → Option D) : ZS :=
  (ySeq (ySet 2 (zCallP cwidened (yc (lf (dV 1)) (yc (z2 fShl (lf (dK (.int 1))) (zCallP fLen (yc (zFld 1 "tower" (lf (dV 0))) y0))) y0))))
  (ySeq (ySet 3 (zCallP croot_in (yc (zFld 1 "tower" (lf (dV 0))) (yc (lf (dV 2)) y0))))
  (ySeq (yIf (lf (dAsB (d2 fIsN (dV 3) (dK .non))))
    (yAsg (zCallP cadjoined (yc (zFld 1 "tower" (lf (dV 0))) (yc (lf (dV 2)) y0))) (ygTu 2 (ygcons (yAtt 1 "tower" (lf (dV 0))) (ygcons (lg (gN 3)) ygnil))))
    (lf sNext))
  (lf (sRet (dCall c_shortest (ac (dV 3) a0)))))))
theorem okField__found_root {f : Addr} {fd : FuncData} {k : Nat} (F : Fun K "_found_root" "Field._found_root" sField__found_root f fd) (M : Names mg) (Z : CtxN P w K mg S) (TNumber : ClsC K (S.cl 0) ["tower", "element"]) (TField : ClsC K (S.cl 1) ["tower", "known_roots"]) {cwidened : List D → Option D} {croot_in : List D → Option D} {cadjoined : List D → Option D} {c_shortest : List D → Option D} (Gwidened : Cal P w K mg base k "widened" ["element", "size"] (SpD S.cls cwidened)) (Groot_in : Cal P w K mg base k "root_in" ["tower", "square"] (SpD S.cls croot_in)) (Gadjoined : Cal P w K mg base k "adjoined" ["tower", "square"] (SpD S.cls cadjoined)) (G_shortest : Cal P w K mg base k "_shortest" ["element"] (SpD S.cls c_shortest)) : FnOk P w K mg base CX0 (k + 1) f fd ["self", "square"] (SpS S (runS 2 4 (denField__found_root cwidened croot_in cadjoined c_shortest))) :=
  fnS_den F scField__found_root fun cdv A outer s H E hr => (zs_cons (zs_set (i := 2) scField__found_root.nd (zn_callP Gwidened.ok hr (by rfl) Gwidened.m Gwidened.kp Gwidened.b pass0 (za_cons (zl (dn_var (i := 1))) (za_cons (zn_shl (zl dn_int) (zn_callB is_len call_len_seq (by rfl) M.len PySem.boot_len (za_cons (zn_fld (t := 1) TField.cl (TField.na _ (by simp)) (zl (dn_var (i := 0)))) za_nil))) za_nil))))
  (zs_cons (zs_set (i := 3) scField__found_root.nd (zn_callP Groot_in.ok hr (by rfl) Groot_in.m Groot_in.kp Groot_in.b pass0 (za_cons (zn_fld (t := 1) TField.cl (TField.na _ (by simp)) (zl (dn_var (i := 0)))) (za_cons (zl (dn_var (i := 2))) za_nil))))
  (zs_cons (zs_if (zlt (dt_isN (dn_var (i := 3))))
    (zs_one (zs_asg (zn_callP Gadjoined.ok hr (by rfl) Gadjoined.m Gadjoined.kp Gadjoined.b pass0 (za_cons (zn_fld (t := 1) TField.cl (TField.na _ (by simp)) (zl (dn_var (i := 0)))) (za_cons (zl (dn_var (i := 2))) za_nil))) (zg_tup rfl (zg_cons (zg_att (t := 1) TField.cl (TField.na _ (by simp)) (zl (dn_var (i := 0)))) (zg_cons (zg (dg_name (i := 3) scField__found_root.nd)) zg_nil)))))
    (zss ds_nil))
  (zss (ds_one (ds_ret (dn_call G_shortest.ok hr (by rfl) G_shortest.m G_shortest.kp G_shortest.b pass0 (da_cons (dn_var (i := 3)) da_nil))))))))
abbrev sField_root : Stmt := inCls (topS 77) 10
abbrev NField_root : List Str := ["self", "square"]
theorem scField_root : FnScope NField_root ["self", "square"] (defScope sField_root) := ⟨rfl, rfl, rfl, by decide +kernel, rfl, by decide +kernel, by decide +kernel⟩
def denField_root (cField__found_root : FnS) : ZS :=
  (ySeq (yIf (zAsB (zIn true (lf (dV 1)) (zFld 1 "known_roots" (lf (dV 0)))))
    (yAsg (zMeth 1 "_found_root" cField__found_root (lf (dV 0)) (lf (ac (dV 1) a0))) (yKey (zFld 1 "known_roots" (lf (dV 0))) (lf (dV 1))))
    (lf sNext))
  (yRet (zIxK (zFld 1 "known_roots" (lf (dV 0))) (lf (dV 1)))))
theorem okField_root {f : Addr} {fd : FuncData} {k : Nat} (F : Fun K "root" "Field.root" sField_root f fd) (M : Names mg) (Z : CtxN P w K mg S) (TNumber : ClsC K (S.cl 0) ["tower", "element"]) (TField : ClsC K (S.cl 1) ["tower", "known_roots"]) {cField__found_root : FnS} (GField__found_root : MCal P w K mg base k (S.cl 1) "_found_root" ["self", "square"] (SpS S cField__found_root)) : FnOk P w K mg base CX0 (k + 1) f fd ["self", "square"] (SpS S (runS 2 2 (denField_root cField__found_root))) :=
  fnS_den F scField_root fun cdv A outer s H E hr => (zs_cons (zs_if (zt_notin Z.hP Z.hw hr.units (zl (dn_var (i := 1))) (zn_fld (t := 1) TField.cl (TField.na _ (by simp)) (zl (dn_var (i := 0)))))
    (zs_one (zs_asg (zn_meth (t := 1) (zl (dn_var (i := 0))) TField.cl GField__found_root.m GField__found_root.ok hr GField__found_root.b pass0 (zla (da_cons (dn_var (i := 1)) da_nil))) (zg_key Z.hP Z.hw hr.units (zn_fld (t := 1) TField.cl (TField.na _ (by simp)) (zl (dn_var (i := 0)))) (zl (dn_var (i := 1))))))
    (zss ds_nil))
  (zs_one (zs_ret (zn_ixK Z.hP Z.hw hr.units (zn_fld (t := 1) TField.cl (TField.na _ (by simp)) (zl (dn_var (i := 0)))) (zl (dn_var (i := 1))) (fun _ _ => rfl)))))
end
end K31

namespace K31
open PySem PySem.Spec PyProof.Rows L2 KG
abbrev sinteger_of : Stmt := topS 83
abbrev Ninteger_of : List Str := ["word", "digits", "digit"]
theorem scinteger_of : FnScope Ninteger_of ["word"] (defScope sinteger_of) := ⟨rfl, rfl, rfl, by decide +kernel, rfl, by decide +kernel, by decide +kernel⟩
section
variable {P : Program} {w : World} {K : PySem.W.Frag} {mg : Str → Option Value} {base : Heap}
def sp_integer_of : Sp := fun vs H Q _ => ∃ x : Str, vs = [.str x] ∧ x.length ≤ 10000000 ∧ (∀ n : Int, isWhole x = true → intText? x = some n → numS n = x → Q (.int n) H) ∧ (isWhole x = false → Q .non H)
theorem ok_integer_of {f : Addr} {fd : FuncData} {k : Nat} {tm : Tok} (F : Fun K "integer_of" "integer_of" sinteger_of f fd) (M : Names mg) (gM : mg "MOST_DIGITS" = some (.int 30 tm)) : FnOk P w K mg base CX0 (k + 1) f fd ["word"] sp_integer_of := by
  refine F.ok scinteger_of (fun vs H Q E h => ?_) (fun cdv A outer s H vs Q E hr h => ?_)
  · obtain ⟨x, rfl, _⟩ := h
    rfl
  obtain ⟨x, rfl, hx, yes, no⟩ := h
  refine ⟨_, (pss_cons (ps_if (pt_cmpR op_eq (pv 0) pe_str (nomark _))
      (pss_one (ps_ret pe_int))
      pss_nil)
    (pss_cons (ps_set (i := 1) scinteger_of.nd rfl (.inl rfl) (pe_bm PySem.F.plainAttrs_str PySem.F.slot_str_removeprefix PySem.F.type_str_removeprefix mt_removeprefix (pv 0) (pa_cons pe_str pa_nil)))
    (pss_cons (ps_if (PW.pt (pw_or (pt_not (pt_chain op_le op_le pe_int (pe_callB call_len_str (by rfl) M.len PySem.boot_len (pa_cons (pv 1) pa_nil)) (pe_glob (v := .int 30) (by rfl) gM ⟨_, rfl⟩))) (pw_or1 (pt_cmpR op_eq (pe_ix ix_str (pv 1) pe_int (fun _ _ => rfl)) pe_str (nomark _)))))
      (pss_one (ps_ret pe_non))
      pss_nil)
    (pss_cons (ps_for PassesOwn.never rfl (pi_str (pv 1)) (pg_name (i := 2) scinteger_of.nd rfl (.inl rfl))
      (pss_one (ps_if (pt_cmpR op_notIn_sign (pv 2) pe_str (by rfl))
        (pss_one (ps_ret pe_non))
        pss_nil)))
    (pss_one (ps_ret (pe_callTy call_int_str (by rfl) M.int (by decide +kernel) (pa_cons (pv 0) pa_nil)))))))), ?_⟩
  have szl : ∀ y : Str, y.length ≤ x.length → y.length ≤ sizeLine := fun y h => by rw [sizeLine_eq]; omega
  have ny := szl _ (digs_le x)
  refine ⟨_, rfl, rfl, _, rfl, ite2 (fun c0 => ?_) (fun c0 => ?_)⟩
  · have e0 : x = "0" := V.str.inj (of_decide_eq_true c0)
    have hw : isWhole x = true := by rw [e0]; decide +kernel
    obtain ⟨n, h1, h2, _⟩ := canon_read hw
    have h3 : n = 0 := numS_inj (h2.trans (e0.trans (by decide +kernel)))
    have q := yes n hw h1 h2
    rw [h3] at q
    exact q
  have e0 : ¬ x = "0" := fun e => c0 (decide_eq_true (by rw [e]))
  refine ⟨_, rfl, rfl, x, "-", rfl, rfl, szl _ (Nat.le_refl _), ?_⟩
  rw [show Txt.removeprefix x "-" = digs x from removeprefix_digs x]
  have dl := digs_le x
  have wh : isWhole x = (decide (1 ≤ (digs x).length) && decide ((digs x).length ≤ 30) && (digs x).cps.toList.all (fun c => decide (c ∈ dec)) && decide ((digs x).cps[0]? ≠ some 48)) := by
    unfold isWhole; rw [decide_eq_false e0, Bool.false_or]
  generalize hd : digs x = d at ny dl wh
  refine ⟨_, rfl, _, rfl, ny, _, _, rfl, rfl, _, rfl, ite2 (fun c1 => ⟨_, _, rfl, rfl, _, rfl, ite2 (fun c2 => iteT ?B2) (fun c2 => ?GO)⟩) (fun c1 => ⟨_, rfl, iteT (iteT ?B1)⟩)⟩
  case B1 =>
    refine no ?_
    have h := of_decide_eq_false (Bool.eq_false_iff.mpr c1)
    rw [wh, decide_eq_false (show ¬ 1 ≤ d.length by omega)]; rfl
  case B2 =>
    refine no ?_
    have h : ¬ ((d.length : Int) ≤ 30) := of_decide_eq_false ((Bool.not_eq_true' _).mp c2)
    rw [wh, decide_eq_false (show ¬ d.length ≤ 30 by omega)]; simp
  have g1 : 1 ≤ d.length := by have := of_decide_eq_true c1; omega
  have g2 : d.length ≤ 30 := by
    have h : ((d.length : Int) ≤ 30) := of_decide_eq_true ((Bool.not_eq_false' (b := _)).mp (Bool.eq_false_iff.mpr c2))
    omega
  have hs : 0 < d.cps.size := g1
  have hg : d.cps[0]? = some d.cps[0] := Array.getElem?_eq_getElem hs
  have e5 : decide (V.str ⟨#[d.cps[0]]⟩ = V.str "0") = decide (d.cps[0] = 48) := by
    by_cases z : d.cps[0] = 48
    · rw [z]; rfl
    · rw [decide_eq_false z, decide_eq_false]
      intro y
      have y3 := congrArg (fun t : Str => t.cps.toList) (V.str.inj y)
      exact z (List.cons.inj (y3.trans (show ("0" : Str).cps.toList = [48] by decide +kernel))).1
  refine ⟨_, rfl, _, 0, d.cps[0], rfl, rfl, ny, atI_nat (j := 0) (by rw [Array.getElem?_toList]; exact hg), rfl, _, rfl, ?_⟩
  rw [e5]
  refine ite2 (fun c3 => ?_) (fun c3 => ?_)
  · refine no ?_
    rw [wh, hg, of_decide_eq_true c3]; simp
  have g3 : d.cps[0] ≠ 48 := of_decide_eq_false (Bool.eq_false_iff.mpr c3)
  have wh2 : isWhole x = d.cps.toList.all (fun c => decide (c ∈ dec)) := by
    rw [wh, hg, decide_eq_true g1, decide_eq_true g2, decide_eq_true (p := some _ ≠ some 48) (fun y => g3 (Option.some.inj y))]; simp
  refine ⟨_, rfl, d, rfl, ⟨fun i m σ H' => m = d.cps.size - i ∧ i ≤ d.cps.size ∧ H' = H ∧ (∃ y2 : Option V, σ = [some (.str x), some (.str d), y2]) ∧ ∀ j, j < i → ∀ c, d.cps[j]? = some c → c ∈ dec,
    ⟨_, rfl, Nat.zero_le _, rfl, ⟨none, rfl⟩, fun j h => by omega⟩, ?_⟩⟩
  rintro i m σ H' ⟨rfl, hi, rfl, ⟨y2, rfl⟩, hall⟩
  by_cases hlt : i < d.cps.size
  · refine .inr ⟨hlt, fun σ' H'' => H'' = H' ∧ (∃ y2 : Option V, σ' = [some (.str x), some (.str d), y2]) ∧ ∀ j, j < i + 1 → ∀ c, d.cps[j]? = some c → c ∈ dec, fun σ' H'' p => ⟨d.cps.size - (i + 1), by omega, rfl, hlt, p⟩, fun v H'' y => ?_⟩
    obtain ⟨rfl, c, hc, rfl⟩ := y
    refine ⟨_, rfl, c, _, rfl, rfl, _, rfl, ite2 (fun c4 => ?_) (fun c4 => ?_)⟩
    · refine no ?_
      have n4 : ¬ c ∈ dec := of_decide_eq_false ((Bool.not_eq_true' _).mp c4)
      rw [wh2, List.all_eq_false]
      exact ⟨c, List.mem_of_getElem? (i := i) (by rw [Array.getElem?_toList]; exact hc), by simpa using n4⟩
    · have n4 : c ∈ dec := of_decide_eq_true ((Bool.not_eq_false' (b := _)).mp (Bool.eq_false_iff.mpr c4))
      refine ⟨rfl, ⟨_, rfl⟩, fun j hj c' hc' => ?_⟩
      by_cases z : j = i
      · rw [z, hc] at hc'
        rw [← Option.some.inj hc']; exact n4
      · exact hall j (by omega) c' hc'
  · refine .inl ⟨by show d.cps.size ≤ i; omega, ?_⟩
    have hw : isWhole x = true := by
      rw [wh2, List.all_eq_true]
      intro c hc
      obtain ⟨j, hj, rfl⟩ := List.getElem_of_mem hc
      have hj' : j < d.cps.size := by rw [← Array.length_toList]; exact hj
      exact decide_eq_true (hall j (by omega) _ (by rw [← Array.getElem?_toList]; exact List.getElem?_eq_getElem hj))
    obtain ⟨n, h1, h2, _, h4⟩ := canon_read hw
    exact ⟨_, rfl, x, n, rfl, h1, by omega, yes n hw h1 h2⟩
end
end K31

set_option maxHeartbeats 4000000
namespace K31
open PySem PySem.Spec PyProof.Rows L2 KG DN
section
variable {P : Program} {w : World} {K : PySem.W.Frag} {mg : Str → Option Value} {base : Heap} {S : CS}
abbrev s_fault : Stmt := topS 87
abbrev N_fault : List Str := ["words", "missing", "place", "word", "parts"]
theorem sc_fault : FnScope N_fault ["words"] (defScope s_fault) := ⟨rfl, rfl, rfl, by decide +kernel, rfl, by decide +kernel, by decide +kernel⟩
def den_fault (cinteger_of : List D → Option D) : List Sl → Option Out :=
  (sSeq (sSet 1 (dK (.int 1)))
  (sSeq (sFor (iEnumD (ac (dV 0) a0)) (gTu 2 (gcons (gN 2) (gcons (gN 3) gnil)))
    (sSeq (sSet 4 (d2 (fKGet2 partsD) (dV 3) (dK (.int 0))))
    (sSeq (sIf (bOr (dAsB (d2 fEq (dV 1) (dK (.int 0)))) (bAnd (dAsB (d2 fEq (dV 4) (dK (.int 0)))) (dAsB (d2 fIsN (dCall cinteger_of (ac (dV 3) a0)) (dK .non)))))
      (sRet (dV 2))
      sNext)
    (sSet 1 (d2 fSub (d2 fAdd (dV 1) (dV 4)) (dK (.int 1)))))))
  (sSeq (sIf (dAsB (d2 (fB20 fun i j => decide (j < i)) (dV 1) (dK (.int 0))))
    (sRet (dCall fLen (ac (dV 0) a0)))
    sNext)
  (sRet (dK .non)))))
theorem ok_fault {f : Addr} {fd : FuncData} {k : Nat} (F : Fun K "_fault" "_fault" s_fault f fd) (M : Names mg) (Z : CtxN P w K mg S) (TNumber : ClsC K (S.cl 0) ["tower", "element"]) (TField : ClsC K (S.cl 1) ["tower", "known_roots"]) {aPARTS : Addr} (DPARTS : mg "PARTS" = some (.ref aPARTS) ∧ KDi K w aPARTS partsD) {cinteger_of : List D → Option D} (Ginteger_of : Cal P w K mg base k "integer_of" ["word"] (SpD S.cls cinteger_of)) : FnOk P w K mg base CX0 (k + 1) f fd ["words"] (SpD S.cls (runD 1 5 (den_fault cinteger_of))) :=
  fn_den F sc_fault fun cdv A outer s H E hr => (ds_cons (ds_set (i := 1) sc_fault.nd dn_int)
  (ds_cons (ds_for PassesOwn.never rfl (di_enum (by rfl) M.enumerate (da_cons (dn_var (i := 0)) da_nil)) (dg_tup rfl (dg_cons (dg_name (i := 2) sc_fault.nd) (dg_cons (dg_name (i := 3) sc_fault.nd) dg_nil)))
    (ds_cons (ds_set (i := 4) sc_fault.nd (dn_kget2 (by rfl) DPARTS.1 DPARTS.2 (dn_var (i := 3)) dn_int ⟨by rfl, by rfl, by rfl, by rfl⟩))
    (ds_cons (ds_if (PW.pt (dw_or (dt_eq hr.units (dn_var (i := 1)) dn_int) (dw_or1 (PW.pt (dw_and (dt_eq hr.units (dn_var (i := 4)) dn_int) (dw_and1 (dt_isN (dn_call Ginteger_of.ok hr (by rfl) Ginteger_of.m Ginteger_of.kp Ginteger_of.b pass0 (da_cons (dn_var (i := 3)) da_nil)))))))))
      (ds_one (ds_ret (dn_var (i := 2))))
      ds_nil)
    (ds_one (ds_set (i := 1) sc_fault.nd (dn_sub (dn_add (dn_var (i := 1)) (dn_var (i := 4))) dn_int))))))
  (ds_cons (ds_if (dt_gt (dn_var (i := 1)) dn_int)
    (ds_one (ds_ret (dn_callB is_len call_len_seq (by rfl) M.len PySem.boot_len (da_cons (dn_var (i := 0)) da_nil))))
    ds_nil)
  (ds_one (ds_ret dn_non)))))
abbrev sread_formula : Stmt := topS 86
abbrev Nread_formula : List Str := ["text", "words", "fault", "found", "word", "parts", "first"]
theorem scread_formula : FnScope Nread_formula ["text"] (defScope sread_formula) := ⟨rfl, rfl, rfl, by decide +kernel, rfl, by decide +kernel, by decide +kernel⟩
def denread_formula (c_fault : List D → Option D) : ZS :=
  (ySeq (lf (sSet 1 (d2 fSplit (dV 0) (dK (.str " ")))))
  (ySeq (lf (sSet 2 (dCall c_fault (ac (dV 1) a0))))
  (ySeq (lf (sIf (dAsB (d2 fNotN (dV 2) (dK .non)))
    sNone
    sNext))
  (ySeq (ySet 3 (zLstC (lf a0)))
  (ySeq (yFor (lf (iRevD (dV 1))) (gN 4)
    (ySeq (lf (sSet 5 (d2 (fKGet2 partsD) (dV 4) (dK (.int 0)))))
    (yIf (lf (dAsB (d2 fEq (dV 5) (dK (.int 0)))))
      (yDrop (zAppC (lf (dV 3)) (lf (dTup (ac (dK (.str "number")) (ac (dCall fIntA (ac (dV 4) a0)) a0))))))
      (yIf (lf (dAsB (d2 fEq (dV 5) (dK (.int 1)))))
        (yDrop (zAppC (lf (dV 3)) (zTup (yc (lf (dV 4)) (yc (zPopC (lf (dV 3))) y0)))))
        (ySeq (ySet 6 (zPopC (lf (dV 3))))
        (yDrop (zAppC (lf (dV 3)) (zTup (yc (lf (dV 4)) (yc (lf (dV 6)) (yc (zPopC (lf (dV 3))) y0)))))))))))
  (yRet (zIxC (lf (dV 3)) (lf (dK (.int 0))))))))))
theorem okread_formula {f : Addr} {fd : FuncData} {k : Nat} (F : Fun K "read_formula" "read_formula" sread_formula f fd) (M : Names mg) (Z : CtxN P w K mg S) (TNumber : ClsC K (S.cl 0) ["tower", "element"]) (TField : ClsC K (S.cl 1) ["tower", "known_roots"]) {aPARTS : Addr} (DPARTS : mg "PARTS" = some (.ref aPARTS) ∧ KDi K w aPARTS partsD) {c_fault : List D → Option D} (G_fault : Cal P w K mg base k "_fault" ["words"] (SpD S.cls c_fault)) : FnOk P w K mg base CX0 (k + 1) f fd ["text"] (SpD S.cls (pln (runS 1 7 (denread_formula c_fault)))) :=
  spD_pln <| fnS_den F scread_formula fun cdv A outer s H E hr => (zs_cons (zs (ds_set (i := 1) scread_formula.nd (dn_split (dn_var (i := 0)) dn_str)))
  (zs_cons (zs (ds_set (i := 2) scread_formula.nd (dn_call G_fault.ok hr (by rfl) G_fault.m G_fault.kp G_fault.b pass0 (da_cons (dn_var (i := 1)) da_nil))))
  (zs_cons (zs (ds_if (dt_notN (dn_var (i := 2)))
    (ds_one ds_nev)
    ds_nil))
  (zs_cons (zs_set (i := 3) scread_formula.nd (zn_lstC (zla da_nil)))
  (zs_cons (zs_for PassesOwn.never rfl (zi (di_rev (by rfl) M.reversed (dn_var (i := 1)))) (dg_name (i := 4) scread_formula.nd)
    (zs_cons (zs (ds_set (i := 5) scread_formula.nd (dn_kget2 (by rfl) DPARTS.1 DPARTS.2 (dn_var (i := 4)) dn_int ⟨by rfl, by rfl, by rfl, by rfl⟩)))
    (zs_one (zs_if (zlt (dt_eq hr.units (dn_var (i := 5)) dn_int))
      (zs_one (zs_drop (ps_expr (zn_appC (fun h g => pe_bm PySem.F.plainAttrs_list PySem.F.slot_list_append PySem.F.type_list_append mt_append h g) (zl (dn_var (i := 3))) (zl (dn_tup (da_cons dn_str (da_cons (dn_callTy is_intA call_intA (by rfl) M.int (by decide +kernel) (da_cons (dn_var (i := 4)) da_nil)) da_nil))))))))
      (zs_one (zs_if (zlt (dt_eq hr.units (dn_var (i := 5)) dn_int))
        (zs_one (zs_drop (ps_expr (zn_appC (fun h g => pe_bm PySem.F.plainAttrs_list PySem.F.slot_list_append PySem.F.type_list_append mt_append h g) (zl (dn_var (i := 3))) (zn_tup (za_cons (zl (dn_var (i := 4))) (za_cons (zn_popC (fun h => pe_bm0 PySem.F.plainAttrs_list PySem.F.slot_list_pop PySem.F.type_list_pop mt_pop h) (zl (dn_var (i := 3)))) za_nil)))))))
        (zs_cons (zs_set (i := 6) scread_formula.nd (zn_popC (fun h => pe_bm0 PySem.F.plainAttrs_list PySem.F.slot_list_pop PySem.F.type_list_pop mt_pop h) (zl (dn_var (i := 3)))))
        (zs_one (zs_drop (ps_expr (zn_appC (fun h g => pe_bm PySem.F.plainAttrs_list PySem.F.slot_list_append PySem.F.type_list_append mt_append h g) (zl (dn_var (i := 3))) (zn_tup (za_cons (zl (dn_var (i := 4))) (za_cons (zl (dn_var (i := 6))) (za_cons (zn_popC (fun h => pe_bm0 PySem.F.plainAttrs_list PySem.F.slot_list_pop PySem.F.type_list_pop mt_pop h) (zl (dn_var (i := 3)))) za_nil)))))))))))))))
  (zs_one (zs_ret (zn_ixC (zl (dn_var (i := 3))) (zl dn_int) (fun _ _ => rfl)))))))))
abbrev swrite_formula : Stmt := topS 88
abbrev Nwrite_formula : List Str := ["formula", "words", "waiting", "part"]
theorem scwrite_formula : FnScope Nwrite_formula ["formula"] (defScope swrite_formula) := ⟨rfl, rfl, rfl, by decide +kernel, rfl, by decide +kernel, by decide +kernel⟩
def denwrite_formula : List Sl → Option Out :=
  (sSeq (sNew 1 a0)
  (sSeq (sNew 2 (ac (dV 0) a0))
  (sSeq (whileD (dTruO 2)
    (sSeq (sPop 3 2)
    (sIf (dAsB (d2 fEq (d2 fIx (dV 3) (dK (.int 0))) (dK (.str "number"))))
      (sApp 1 (dCall fStr (ac (d2 fIx (dV 3) (dK (.int 1))) a0)))
      (sSeq (sApp 1 (d2 fIx (dV 3) (dK (.int 0))))
      (sExt 2 (d1 fBackT (dV 3)))))) 500)
  (sFrz 1 (sRet (d2 fJoin (dK (.str " ")) (dV 1)))))))
theorem okwrite_formula {f : Addr} {fd : FuncData} {k : Nat} (F : Fun K "write_formula" "write_formula" swrite_formula f fd) (M : Names mg) (Z : CtxN P w K mg S) (TNumber : ClsC K (S.cl 0) ["tower", "element"]) (TField : ClsC K (S.cl 1) ["tower", "known_roots"]) : FnOk P w K mg base CX0 (k + 1) f fd ["formula"] (SpD S.cls (runD 1 4 (denwrite_formula))) :=
  fn_den F scwrite_formula fun cdv A outer s H E hr => (ds_cons (ds_new (i := 1) scwrite_formula.nd da_nil)
  (ds_cons (ds_new (i := 2) scwrite_formula.nd (da_cons (dn_var (i := 0)) da_nil))
  (ds_cons (ds_while 500 PassesOwn.never (dt_truthO (i := 2))
    (ds_cons (ds_pop (i := 3) (j := 2) scwrite_formula.nd (fun h => pe_bm0 PySem.F.plainAttrs_list PySem.F.slot_list_pop PySem.F.type_list_pop mt_pop h))
    (ds_one (ds_if (dt_eq hr.units (dn_sub_ix (dn_var (i := 3)) dn_int (fun _ _ => rfl)) dn_str)
      (ds_one (ds_app (i := 1) (dn_callTy is_strI call_str_int (by rfl) M.str (by decide +kernel) (da_cons (dn_sub_ix (dn_var (i := 3)) dn_int (fun _ _ => rfl)) da_nil)) (hps := fun h => ps_expr h) (hpe := fun h g => pe_bm PySem.F.plainAttrs_list PySem.F.slot_list_append PySem.F.type_list_append mt_append h g)))
      (ds_cons (ds_app (i := 1) (dn_sub_ix (dn_var (i := 3)) dn_int (fun _ _ => rfl)) (hps := fun h => ps_expr h) (hpe := fun h g => pe_bm PySem.F.plainAttrs_list PySem.F.slot_list_append PySem.F.type_list_append mt_append h g))
      (ds_one (ds_ext (i := 2) (dn_backT (dn_var (i := 3))) (hps := fun h => ps_expr h) (hpe := fun h g => pe_bm PySem.F.plainAttrs_list PySem.F.slot_list_extend PySem.F.type_list_extend mt_extT h g))))))))
  (dss_frz (i := 1) (ds_one (ds_ret (dn_join dn_str (dn_var (i := 1)))))))))
abbrev s_inside_first : Stmt := topS 91
abbrev N_inside_first : List Str := ["formula", "falling", "waiting", "part"]
theorem sc_inside_first : FnScope N_inside_first ["formula"] (defScope s_inside_first) := ⟨rfl, rfl, rfl, by decide +kernel, rfl, by decide +kernel, by decide +kernel⟩
def den_inside_first : List Sl → Option Out :=
  (sSeq (sNew 1 a0)
  (sSeq (sNew 2 (ac (dV 0) a0))
  (sSeq (whileD (dTruO 2)
    (sSeq (sPop 3 2)
    (sSeq (sApp 1 (dV 3))
    (sIf (dAsB (d2 fNe (d2 fIx (dV 3) (dK (.int 0))) (dK (.str "number"))))
      (sExt 2 (dSl (dV 3) (p1 (dK (.int 1))) p0))
      sNext))) 500)
  (sFrz 1 (sRet (d1 fBack (dV 1)))))))
theorem ok_inside_first {f : Addr} {fd : FuncData} {k : Nat} (F : Fun K "_inside_first" "_inside_first" s_inside_first f fd) (M : Names mg) (Z : CtxN P w K mg S) (TNumber : ClsC K (S.cl 0) ["tower", "element"]) (TField : ClsC K (S.cl 1) ["tower", "known_roots"]) : FnOk P w K mg base CX0 (k + 1) f fd ["formula"] (SpD S.cls (runD 1 4 (den_inside_first))) :=
  fn_den F sc_inside_first fun cdv A outer s H E hr => (ds_cons (ds_new (i := 1) sc_inside_first.nd da_nil)
  (ds_cons (ds_new (i := 2) sc_inside_first.nd (da_cons (dn_var (i := 0)) da_nil))
  (ds_cons (ds_while 500 PassesOwn.never (dt_truthO (i := 2))
    (ds_cons (ds_pop (i := 3) (j := 2) sc_inside_first.nd (fun h => pe_bm0 PySem.F.plainAttrs_list PySem.F.slot_list_pop PySem.F.type_list_pop mt_pop h))
    (ds_cons (ds_app (i := 1) (dn_var (i := 3)) (hps := fun h => ps_expr h) (hpe := fun h g => pe_bm PySem.F.plainAttrs_list PySem.F.slot_list_append PySem.F.type_list_append mt_append h g))
    (ds_one (ds_if (dt_ne hr.units (dn_sub_ix (dn_var (i := 3)) dn_int (fun _ _ => rfl)) dn_str)
      (ds_one (ds_ext (i := 2) (dn_slice (dn_var (i := 3)) (dp_some dn_int) dp_none) (hps := fun h => ps_expr h) (hpe := fun h g => pe_bm PySem.F.plainAttrs_list PySem.F.slot_list_extend PySem.F.type_list_extend mt_extT h g)))
      ds_nil)))))
  (dss_frz (i := 1) (ds_one (ds_ret (dn_back (dn_var (i := 1)))))))))
abbrev s_combined : Stmt := topS 92
abbrev N_combined : List Str := ["field", "word", "parts", "last"]
theorem sc_combined : FnScope N_combined ["field", "word", "parts"] (defScope s_combined) := ⟨rfl, rfl, rfl, by decide +kernel, rfl, by decide +kernel, by decide +kernel⟩
def den_combined (cField_plus : FnS) (cField_minus : FnS) (cField_product : FnS) (cField_negative : FnS) (cField_sign : FnS) (cField_quotient : FnS) (cField_root : FnS) : ZS :=
  (ySeq (lf (sSet 3 (d2 fIx (dV 2) (d1 (fI1 fun i => -i) (dK (.int 1))))))
  (ySeq (yIf (lf (dAsB (d2 fEq (dV 1) (dK (.str "add")))))
    (yRet (zMeth 1 "plus" cField_plus (lf (dV 0)) (lf (ac (d2 fIx (dV 2) (dK (.int 0))) (ac (dV 3) a0)))))
    (lf sNext))
  (ySeq (yIf (lf (dAsB (d2 fEq (dV 1) (dK (.str "sub")))))
    (yRet (zMeth 1 "minus" cField_minus (lf (dV 0)) (lf (ac (d2 fIx (dV 2) (dK (.int 0))) (ac (dV 3) a0)))))
    (lf sNext))
  (ySeq (yIf (lf (dAsB (d2 fEq (dV 1) (dK (.str "mul")))))
    (yRet (zMeth 1 "product" cField_product (lf (dV 0)) (lf (ac (d2 fIx (dV 2) (dK (.int 0))) (ac (dV 3) a0)))))
    (lf sNext))
  (ySeq (yIf (lf (dAsB (d2 fEq (dV 1) (dK (.str "neg")))))
    (yRet (zMeth 1 "negative" cField_negative (lf (dV 0)) (lf (ac (dV 3) a0))))
    (lf sNext))
  (ySeq (yIf (lf (dAsB (d2 fEq (dV 1) (dK (.str "div")))))
    (ySeq (yIf (zAsB (z2 fEq (zMeth 1 "sign" cField_sign (lf (dV 0)) (lf (ac (dV 3) a0))) (lf (dK (.int 0)))))
      (lf sNone)
      (lf sNext))
    (yRet (zMeth 1 "quotient" cField_quotient (lf (dV 0)) (lf (ac (d2 fIx (dV 2) (dK (.int 0))) (ac (dV 3) a0))))))
    (lf sNext))
  (ySeq (yIf (zAsB (z2 (fB20 fun i j => decide (i < j)) (zMeth 1 "sign" cField_sign (lf (dV 0)) (lf (ac (dV 3) a0))) (lf (dK (.int 0)))))
    (lf sNone)
    (lf sNext))
  (yRet (zMeth 1 "root" cField_root (lf (dV 0)) (lf (ac (dV 3) a0)))))))))))
theorem ok_combined {f : Addr} {fd : FuncData} {k : Nat} (F : Fun K "_combined" "_combined" s_combined f fd) (M : Names mg) (Z : CtxN P w K mg S) (TNumber : ClsC K (S.cl 0) ["tower", "element"]) (TField : ClsC K (S.cl 1) ["tower", "known_roots"]) {cField_plus : FnS} {cField_minus : FnS} {cField_product : FnS} {cField_negative : FnS} {cField_sign : FnS} {cField_quotient : FnS} {cField_root : FnS} (GField_plus : MCal P w K mg base k (S.cl 1) "plus" ["self", "one", "other"] (SpS S cField_plus)) (GField_minus : MCal P w K mg base k (S.cl 1) "minus" ["self", "one", "other"] (SpS S cField_minus)) (GField_product : MCal P w K mg base k (S.cl 1) "product" ["self", "one", "other"] (SpS S cField_product)) (GField_negative : MCal P w K mg base k (S.cl 1) "negative" ["self", "element"] (SpS S cField_negative)) (GField_sign : MCal P w K mg base k (S.cl 1) "sign" ["self", "element"] (SpS S cField_sign)) (GField_quotient : MCal P w K mg base k (S.cl 1) "quotient" ["self", "one", "other"] (SpS S cField_quotient)) (GField_root : MCal P w K mg base k (S.cl 1) "root" ["self", "square"] (SpS S cField_root)) : FnOk P w K mg base CX0 (k + 1) f fd ["field", "word", "parts"] (SpS S (runS 3 4 (den_combined cField_plus cField_minus cField_product cField_negative cField_sign cField_quotient cField_root))) :=
  fnS_den F sc_combined fun cdv A outer s H E hr => (zs_cons (zs (ds_set (i := 3) sc_combined.nd (dn_sub_ix (dn_var (i := 2)) (dn_neg dn_int) (fun _ _ => rfl))))
  (zs_cons (zs_if (zlt (dt_eq hr.units (dn_var (i := 1)) dn_str))
    (zs_one (zs_ret (zn_meth (t := 1) (zl (dn_var (i := 0))) TField.cl GField_plus.m GField_plus.ok hr GField_plus.b pass0 (zla (da_cons (dn_sub_ix (dn_var (i := 2)) dn_int (fun _ _ => rfl)) (da_cons (dn_var (i := 3)) da_nil))))))
    (zss ds_nil))
  (zs_cons (zs_if (zlt (dt_eq hr.units (dn_var (i := 1)) dn_str))
    (zs_one (zs_ret (zn_meth (t := 1) (zl (dn_var (i := 0))) TField.cl GField_minus.m GField_minus.ok hr GField_minus.b pass0 (zla (da_cons (dn_sub_ix (dn_var (i := 2)) dn_int (fun _ _ => rfl)) (da_cons (dn_var (i := 3)) da_nil))))))
    (zss ds_nil))
  (zs_cons (zs_if (zlt (dt_eq hr.units (dn_var (i := 1)) dn_str))
    (zs_one (zs_ret (zn_meth (t := 1) (zl (dn_var (i := 0))) TField.cl GField_product.m GField_product.ok hr GField_product.b pass0 (zla (da_cons (dn_sub_ix (dn_var (i := 2)) dn_int (fun _ _ => rfl)) (da_cons (dn_var (i := 3)) da_nil))))))
    (zss ds_nil))
  (zs_cons (zs_if (zlt (dt_eq hr.units (dn_var (i := 1)) dn_str))
    (zs_one (zs_ret (zn_meth (t := 1) (zl (dn_var (i := 0))) TField.cl GField_negative.m GField_negative.ok hr GField_negative.b pass0 (zla (da_cons (dn_var (i := 3)) da_nil)))))
    (zss ds_nil))
  (zs_cons (zs_if (zlt (dt_eq hr.units (dn_var (i := 1)) dn_str))
    (zs_cons (zs_if (zt_eq hr.units (zn_meth (t := 1) (zl (dn_var (i := 0))) TField.cl GField_sign.m GField_sign.ok hr GField_sign.b pass0 (zla (da_cons (dn_var (i := 3)) da_nil))) (zl dn_int))
      (zss (ds_one ds_nev))
      (zss ds_nil))
    (zs_one (zs_ret (zn_meth (t := 1) (zl (dn_var (i := 0))) TField.cl GField_quotient.m GField_quotient.ok hr GField_quotient.b pass0 (zla (da_cons (dn_sub_ix (dn_var (i := 2)) dn_int (fun _ _ => rfl)) (da_cons (dn_var (i := 3)) da_nil)))))))
    (zss ds_nil))
  (zs_cons (zs_if (zt_lt (zn_meth (t := 1) (zl (dn_var (i := 0))) TField.cl GField_sign.m GField_sign.ok hr GField_sign.b pass0 (zla (da_cons (dn_var (i := 3)) da_nil))) (zl dn_int))
    (zss (ds_one ds_nev))
    (zss ds_nil))
  (zs_one (zs_ret (zn_meth (t := 1) (zl (dn_var (i := 0))) TField.cl GField_root.m GField_root.ok hr GField_root.b pass0 (zla (da_cons (dn_var (i := 3)) da_nil))))))))))))
abbrev sworked_out : Stmt := topS 90
abbrev Nworked_out : List Str := ["field", "formula", "told", "found", "part", "parts", "whole", "_"]
theorem scworked_out : FnScope Nworked_out ["field", "formula"] (defScope sworked_out) := ⟨rfl, rfl, rfl, by decide +kernel, rfl, by decide +kernel, by decide +kernel⟩
def denworked_out (c_inside_first : List D → Option D) (cwhole_element : List D → Option D) (c_combined : FnS) : ZS :=
  (ySeq (lf (sNew 2 a0))
  (ySeq (ySet 3 (zLstC (lf a0)))
  (ySeq (yFor (lf (iSeq (dCall c_inside_first (ac (dV 1) a0)))) (gN 4)
    (ySeq (yIf (lf (dAsB (d2 fEq (d2 fIx (dV 4) (dK (.int 0))) (dK (.str "number")))))
      (lf (sSeq (sSet 5 (dLst a0))
      (sSet 6 (dCall cwhole_element (ac (d2 fIx (dV 4) (dK (.int 1))) a0)))))
      (ySeq (ySet 5 (z1 fBack (zLc (lf (iSeq (dSl (dV 4) (p1 (dK (.int 1))) p0))) (gN 7) (zPopC (lf (dV 3))) [7])))
      (ySet 6 (zCall c_combined (lf (ac (dV 0) (ac (d2 fIx (dV 4) (dK (.int 0))) (ac (dV 5) a0))))))))
    (ySeq (yDrop (zAppC (lf (dV 3)) (lf (dV 6))))
    (lf (sApp 2 (dTup (ac (d2 fIx (dV 4) (dK (.int 0))) (ac (dV 6) (ac (dV 5) a0)))))))))
  (lf (sFrz 2 (sRet (dV 2)))))))
theorem okworked_out {f : Addr} {fd : FuncData} {k : Nat} (F : Fun K "worked_out" "worked_out" sworked_out f fd) (M : Names mg) (Z : CtxN P w K mg S) (TNumber : ClsC K (S.cl 0) ["tower", "element"]) (TField : ClsC K (S.cl 1) ["tower", "known_roots"]) {c_inside_first : List D → Option D} {cwhole_element : List D → Option D} {c_combined : FnS} (G_inside_first : Cal P w K mg base k "_inside_first" ["formula"] (SpD S.cls c_inside_first)) (Gwhole_element : Cal P w K mg base k "whole_element" ["n"] (SpD S.cls cwhole_element)) (G_combined : Cal P w K mg base k "_combined" ["field", "word", "parts"] (SpS S c_combined)) : FnOk P w K mg base CX0 (k + 1) f fd ["field", "formula"] (SpS S (runS 2 8 (denworked_out c_inside_first cwhole_element c_combined))) :=
  fnS_den F scworked_out fun cdv A outer s H E hr => (zs_cons (zs (ds_new (i := 2) scworked_out.nd da_nil))
  (zs_cons (zs_set (i := 3) scworked_out.nd (zn_lstC (zla da_nil)))
  (zs_cons (zs_for PassesOwn.never rfl (zi (di_seq (dn_call G_inside_first.ok hr (by rfl) G_inside_first.m G_inside_first.kp G_inside_first.b pass0 (da_cons (dn_var (i := 1)) da_nil)))) (dg_name (i := 4) scworked_out.nd)
    (zs_cons (zs_if (zlt (dt_eq hr.units (dn_sub_ix (dn_var (i := 4)) dn_int (fun _ _ => rfl)) dn_str))
      (zss (ds_cons (ds_set (i := 5) scworked_out.nd (dn_lst da_nil))
      (ds_one (ds_set (i := 6) scworked_out.nd (dn_call Gwhole_element.ok hr (by rfl) Gwhole_element.m Gwhole_element.kp Gwhole_element.b pass0 (da_cons (dn_sub_ix (dn_var (i := 4)) dn_int (fun _ _ => rfl)) da_nil))))))
      (zs_cons (zs_set (i := 5) scworked_out.nd (zn_back (zn_lc (own := [("_", 7)]) (by rfl) scworked_out.nd (zi (di_seq (dn_slice (dn_var (i := 4)) (dp_some dn_int) dp_none))) (blkOk_by (own := [("_", 7)]) (N := Nworked_out) (sc := defScope sworked_out) (by decide +kernel)) (fun _ _ _ _ _ => (dg_name (i := 7) scworked_out.nd)) (fun _ _ _ _ _ => (zn_popC (fun h => pe_bm0 PySem.F.plainAttrs_list PySem.F.slot_list_pop PySem.F.type_list_pop mt_pop h) (zl (dn_var (i := 3))))))))
      (zs_one (zs_set (i := 6) scworked_out.nd (zn_call G_combined.ok hr (by rfl) G_combined.m G_combined.kp G_combined.b pass0 (zla (da_cons (dn_var (i := 0)) (da_cons (dn_sub_ix (dn_var (i := 4)) dn_int (fun _ _ => rfl)) (da_cons (dn_var (i := 5)) da_nil)))))))))
    (zs_cons (zs_drop (ps_expr (zn_appC (fun h g => pe_bm PySem.F.plainAttrs_list PySem.F.slot_list_append PySem.F.type_list_append mt_append h g) (zl (dn_var (i := 3))) (zl (dn_var (i := 6))))))
    (zss (ds_one (ds_app (i := 2) (dn_tup (da_cons (dn_sub_ix (dn_var (i := 4)) dn_int (fun _ _ => rfl)) (da_cons (dn_var (i := 6)) (da_cons (dn_var (i := 5)) da_nil)))) (hps := fun h => ps_expr h) (hpe := fun h g => pe_bm PySem.F.plainAttrs_list PySem.F.slot_list_append PySem.F.type_list_append mt_append h g)))))))
  (zss (dss_frz (i := 2) (ds_one (ds_ret (dn_var (i := 2)))))))))
abbrev svalue : Stmt := topS 89
abbrev Nvalue : List Str := ["formula", "field", "told"]
theorem scvalue : FnScope Nvalue ["formula"] (defScope svalue) := ⟨rfl, rfl, rfl, by decide +kernel, rfl, by decide +kernel, by decide +kernel⟩
def denvalue (cmkField : FnS) (cworked_out : FnS) (cField_number : FnS) : ZS :=
  (ySeq (ySet 1 (zMake 1 cmkField y0))
  (ySeq (ySet 2 (zCall cworked_out (lf (ac (dV 1) (ac (dV 0) a0)))))
  (yRet (zMeth 1 "number" cField_number (lf (dV 1)) (lf (ac (d2 fIx (d2 fIx (dV 2) (d1 (fI1 fun i => -i) (dK (.int 1)))) (dK (.int 1))) a0))))))
theorem okvalue {f : Addr} {fd : FuncData} {k : Nat} (F : Fun K "value" "value" svalue f fd) (M : Names mg) (Z : CtxN P w K mg S) (TNumber : ClsC K (S.cl 0) ["tower", "element"]) (TField : ClsC K (S.cl 1) ["tower", "known_roots"]) {cmkField : FnS} {cworked_out : FnS} {cField_number : FnS} (GmkField : MkC P w K mg base k S 1 "Field" ["self"] cmkField) (Gworked_out : Cal P w K mg base k "worked_out" ["field", "formula"] (SpS S cworked_out)) (GField_number : MCal P w K mg base k (S.cl 1) "number" ["self", "element"] (SpS S cField_number)) : FnOk P w K mg base CX0 (k + 1) f fd ["formula"] (SpD S.cls (pln (runS 1 3 (denvalue cmkField cworked_out cField_number)))) :=
  spD_pln <| fnS_den F scvalue fun cdv A outer s H E hr => (zs_cons (zs_set (i := 1) scvalue.nd (zn_make0 (t := 1) GmkField.m GmkField.ok (hr.mono GmkField.lt) (by rfl) GmkField.h GmkField.b pass0))
  (zs_cons (zs_set (i := 2) scvalue.nd (zn_call Gworked_out.ok hr (by rfl) Gworked_out.m Gworked_out.kp Gworked_out.b pass0 (zla (da_cons (dn_var (i := 1)) (da_cons (dn_var (i := 0)) da_nil)))))
  (zs_one (zs_ret (zn_meth (t := 1) (zl (dn_var (i := 1))) TField.cl GField_number.m GField_number.ok hr GField_number.b pass0 (zla (da_cons (dn_sub_ix (dn_sub_ix (dn_var (i := 2)) (dn_neg dn_int) (fun _ _ => rfl)) dn_int (fun _ _ => rfl)) da_nil)))))))
abbrev s_corner_of_17 : Stmt := topS 96
abbrev N_corner_of_17 : List Str := ["one", "other", "inner"]
theorem sc_corner_of_17 : FnScope N_corner_of_17 [] (defScope s_corner_of_17) := ⟨rfl, rfl, rfl, by decide +kernel, rfl, by decide +kernel, by decide +kernel⟩
def den_corner_of_17 : List Sl → Option Out :=
  (sSeq (sSet 0 (dK (.str "root sub 34 mul 2 root 17")))
  (sSeq (sSet 1 (dK (.str "root add 34 mul 2 root 17")))
  (sSeq (sSet 2 (dJoined ((dK (.str "root sub sub add 17 mul 3 root 17 ") :: (dFmtV (dV 0) :: (dK (.str " mul 2 ") :: (dFmtV (dV 1) :: [])))))))
  (sRet (dJoined ((dK (.str "div sub add add root 17 ") :: (dFmtV (dV 0) :: (dK (.str " mul 2 ") :: (dFmtV (dV 2) :: (dK (.str " 1 16") :: [])))))))))))
theorem ok_corner_of_17 {f : Addr} {fd : FuncData} {k : Nat} (F : Fun K "_corner_of_17" "_corner_of_17" s_corner_of_17 f fd) (M : Names mg) (Z : CtxN P w K mg S) (TNumber : ClsC K (S.cl 0) ["tower", "element"]) (TField : ClsC K (S.cl 1) ["tower", "known_roots"]) : FnOk P w K mg base CX0 (k + 1) f fd [] (SpD S.cls (runD 0 3 (den_corner_of_17))) :=
  fn_den F sc_corner_of_17 fun cdv A outer s H E hr => (ds_cons (ds_set (i := 0) sc_corner_of_17.nd dn_str)
  (ds_cons (ds_set (i := 1) sc_corner_of_17.nd dn_str)
  (ds_cons (ds_set (i := 2) sc_corner_of_17.nd (dn_joined (PJD.cons dn_str const_str (PJD.cons (dn_fmt (dn_var (i := 0))) fmtV_str (PJD.cons dn_str const_str (PJD.cons (dn_fmt (dn_var (i := 1))) fmtV_str PJD.nil))))))
  (ds_one (ds_ret (dn_joined (PJD.cons dn_str const_str (PJD.cons (dn_fmt (dn_var (i := 0))) fmtV_str (PJD.cons dn_str const_str (PJD.cons (dn_fmt (dn_var (i := 2))) fmtV_str (PJD.cons dn_str const_str PJD.nil)))))))))))
abbrev s_of_half_the_angle : Stmt := topS 97
abbrev N_of_half_the_angle : List Str := ["cosine"]
theorem sc_of_half_the_angle : FnScope N_of_half_the_angle ["cosine"] (defScope s_of_half_the_angle) := ⟨rfl, rfl, rfl, by decide +kernel, rfl, by decide +kernel, by decide +kernel⟩
def den_of_half_the_angle : List Sl → Option Out :=
  (sRet (dTup (ac (dK (.str "root")) (ac (dTup (ac (dK (.str "div")) (ac (dTup (ac (dK (.str "add")) (ac (dTup (ac (dK (.str "number")) (ac (dK (.int 1)) a0))) (ac (dV 0) a0)))) (ac (dTup (ac (dK (.str "number")) (ac (dK (.int 2)) a0))) a0)))) a0))))
theorem ok_of_half_the_angle {f : Addr} {fd : FuncData} {k : Nat} (F : Fun K "_of_half_the_angle" "_of_half_the_angle" s_of_half_the_angle f fd) (M : Names mg) (Z : CtxN P w K mg S) (TNumber : ClsC K (S.cl 0) ["tower", "element"]) (TField : ClsC K (S.cl 1) ["tower", "known_roots"]) : FnOk P w K mg base CX0 (k + 1) f fd ["cosine"] (SpD S.cls (runD 1 1 (den_of_half_the_angle))) :=
  fn_den F sc_of_half_the_angle fun cdv A outer s H E hr => (ds_one (ds_ret (dn_tup (da_cons dn_str (da_cons (dn_tup (da_cons dn_str (da_cons (dn_tup (da_cons dn_str (da_cons (dn_tup (da_cons dn_str (da_cons dn_int da_nil))) (da_cons (dn_var (i := 0)) da_nil)))) (da_cons (dn_tup (da_cons dn_str (da_cons dn_int da_nil))) da_nil)))) da_nil)))))
abbrev scorner : Stmt := topS 95
abbrev Ncorner : List Str := ["n", "many", "doublings", "text", "formula", "_"]
theorem sccorner : FnScope Ncorner ["n"] (defScope scorner) := ⟨rfl, rfl, rfl, by decide +kernel, rfl, by decide +kernel, by decide +kernel⟩
def dencorner (c_corner_of_17 : List D → Option D) (cread_formula : List D → Option D) (c_of_half_the_angle : List D → Option D) : List Sl → Option Out :=
  (sSeq (sSet 1 (dV 0))
  (sSeq (sSet 2 (dK (.int 0)))
  (sSeq (whileD (bAnd (dAsB (d2 (fB20 fun i j => decide (j < i)) (dV 1) (dK (.int 4)))) (dAsB (d2 fEq (d2 fMod (dV 1) (dK (.int 2))) (dK (.int 0)))))
    (sSeq (sSet 1 (d2 fDiv (dV 1) (dK (.int 2))))
    (sAug 2 (fun i j => i + j) (dK (.int 1)))) 1000)
  (sSeq (sSet 3 (dIfE (dAsB (d2 fEq (dV 1) (dK (.int 17)))) (dCall c_corner_of_17 a0) (d1 (fKGetI cornersD) (dV 1))))
  (sSeq (sIf (dAsB (d2 fIsN (dV 3) (dK .non)))
    (sRet (dK .non))
    sNext)
  (sSeq (sSet 4 (dCall cread_formula (ac (dV 3) a0)))
  (sSeq (sFor (iRng r1D (ac (dV 2) a0)) (gN 5)
    (sSet 4 (dCall c_of_half_the_angle (ac (dV 4) a0))))
  (sRet (dV 4)))))))))
theorem okcorner {f : Addr} {fd : FuncData} {k : Nat} (F : Fun K "corner" "corner" scorner f fd) (M : Names mg) (Z : CtxN P w K mg S) (TNumber : ClsC K (S.cl 0) ["tower", "element"]) (TField : ClsC K (S.cl 1) ["tower", "known_roots"]) {aCORNERS : Addr} (DCORNERS : mg "CORNERS" = some (.ref aCORNERS) ∧ KDj K w aCORNERS cornersD) {c_corner_of_17 : List D → Option D} {cread_formula : List D → Option D} {c_of_half_the_angle : List D → Option D} (G_corner_of_17 : Cal P w K mg base k "_corner_of_17" [] (SpD S.cls c_corner_of_17)) (Gread_formula : Cal P w K mg base k "read_formula" ["text"] (SpD S.cls cread_formula)) (G_of_half_the_angle : Cal P w K mg base k "_of_half_the_angle" ["cosine"] (SpD S.cls c_of_half_the_angle)) : FnOk P w K mg base CX0 (k + 1) f fd ["n"] (SpD S.cls (runD 1 6 (dencorner c_corner_of_17 cread_formula c_of_half_the_angle))) :=
  fn_den F sccorner fun cdv A outer s H E hr => (ds_cons (ds_set (i := 1) sccorner.nd (dn_var (i := 0)))
  (ds_cons (ds_set (i := 2) sccorner.nd dn_int)
  (ds_cons (ds_while 1000 PassesOwn.never (PW.pt (dw_and (dt_gt (dn_var (i := 1)) dn_int) (dw_and1 (dt_eq hr.units (dn_mod (dn_var (i := 1)) dn_int) dn_int))))
    (ds_cons (ds_set (i := 1) sccorner.nd (dn_div (dn_var (i := 1)) dn_int))
    (ds_one (ds_aug (i := 2) sccorner.nd dn_int ip_add))))
  (ds_cons (ds_set (i := 3) sccorner.nd (dn_ifExp (dt_eq hr.units (dn_var (i := 1)) dn_int) (dn_call0 G_corner_of_17.ok hr (by rfl) G_corner_of_17.m G_corner_of_17.kp G_corner_of_17.b pass0) (dn_kgetI (by rfl) DCORNERS.1 DCORNERS.2 (dn_var (i := 1)) ⟨by rfl, by rfl, by rfl, by rfl⟩)))
  (ds_cons (ds_if (dt_isN (dn_var (i := 3)))
    (ds_one (ds_ret dn_non))
    ds_nil)
  (ds_cons (ds_set (i := 4) sccorner.nd (dn_call Gread_formula.ok hr (by rfl) Gread_formula.m Gread_formula.kp Gread_formula.b pass0 (da_cons (dn_var (i := 3)) da_nil)))
  (ds_cons (ds_for PassesOwn.never rfl (di_range1 (by rfl) M.range (da_cons (dn_var (i := 2)) da_nil)) (dg_name (i := 5) sccorner.nd)
    (ds_one (ds_set (i := 4) sccorner.nd (dn_call G_of_half_the_angle.ok hr (by rfl) G_of_half_the_angle.m G_of_half_the_angle.kp G_of_half_the_angle.b pass0 (da_cons (dn_var (i := 4)) da_nil)))))
  (ds_one (ds_ret (dn_var (i := 4)))))))))))
end
end K31

set_option maxHeartbeats 4000000
namespace K31
open PySem PySem.Spec PyProof.Rows L2 KG DN
section
variable {P : Program} {w : World} {K : PySem.W.Frag} {mg : Str → Option Value} {base : Heap} {S : CS}
abbrev s_law_gcd : Stmt := topS 101
abbrev N_law_gcd : List Str := ["a", "b", "left", "right", "k", "rest"]
theorem sc_law_gcd : FnScope N_law_gcd ["a", "b"] (defScope s_law_gcd) := ⟨rfl, rfl, rfl, by decide +kernel, rfl, by decide +kernel, by decide +kernel⟩
def den_law_gcd : List Sl → Option Out :=
  (sSeq (sSet 2 (dCall fAbs (ac (dV 0) a0)))
  (sSeq (sSet 3 (dCall fAbs (ac (dV 1) a0)))
  (sSeq (sFor (iRng r1D (ac (dK (.int 4000)) a0)) (gN 4)
    (sSeq (sIf (dAsB (d2 fEq (dV 3) (dK (.int 0))))
      (sRet (dV 2))
      sNext)
    (sSeq (sSet 5 (d2 fMod (dCall fIntA (ac (dV 2) a0)) (dV 3)))
    (sSeq (sSet 2 (dV 3))
    (sSet 3 (dV 5))))))
  (sRet (dV 2)))))
theorem ok_law_gcd {f : Addr} {fd : FuncData} {k : Nat} (F : Fun K "_law_gcd" "_law_gcd" s_law_gcd f fd) (M : Names mg) (Z : CtxN P w K mg S) (TNumber : ClsC K (S.cl 0) ["tower", "element"]) (TField : ClsC K (S.cl 1) ["tower", "known_roots"]) : FnOk P w K mg base CX0 (k + 1) f fd ["a", "b"] (SpD S.cls (runD 2 6 (den_law_gcd))) :=
  fn_den F sc_law_gcd fun cdv A outer s H E hr => (ds_cons (ds_set (i := 2) sc_law_gcd.nd (dn_callB is_abs call_abs (by rfl) M.abs (by decide +kernel) (da_cons (dn_var (i := 0)) da_nil)))
  (ds_cons (ds_set (i := 3) sc_law_gcd.nd (dn_callB is_abs call_abs (by rfl) M.abs (by decide +kernel) (da_cons (dn_var (i := 1)) da_nil)))
  (ds_cons (ds_for PassesOwn.never rfl (di_range1 (by rfl) M.range (da_cons dn_int da_nil)) (dg_name (i := 4) sc_law_gcd.nd)
    (ds_cons (ds_if (dt_eq hr.units (dn_var (i := 3)) dn_int)
      (ds_one (ds_ret (dn_var (i := 2))))
      ds_nil)
    (ds_cons (ds_set (i := 5) sc_law_gcd.nd (dn_mod (dn_callTy is_intA call_intA (by rfl) M.int (by decide +kernel) (da_cons (dn_var (i := 2)) da_nil)) (dn_var (i := 3))))
    (ds_cons (ds_set (i := 2) sc_law_gcd.nd (dn_var (i := 3)))
    (ds_one (ds_set (i := 3) sc_law_gcd.nd (dn_var (i := 5))))))))
  (ds_one (ds_ret (dn_var (i := 2)))))))
abbrev s_law_primitive : Stmt := topS 102
abbrev N_law_primitive : List Str := ["row", "shared", "number"]
theorem sc_law_primitive : FnScope N_law_primitive ["row"] (defScope s_law_primitive) := ⟨rfl, rfl, rfl, by decide +kernel, rfl, by decide +kernel, by decide +kernel⟩
def den_law_primitive (c_law_gcd : List D → Option D) : List Sl → Option Out :=
  (sSeq (sSet 1 (dK (.int 0)))
  (sSeq (sFor (iSeq (dV 0)) (gN 2)
    (sSet 1 (dCall c_law_gcd (ac (dV 1) (ac (dV 2) a0)))))
  (sSeq (sIf (dAsB (d2 fLtA (d2 fIx (dV 0) (d2 fSub (dCall fLen (ac (dV 0) a0)) (dK (.int 1)))) (dK (.int 0))))
    (sSet 1 (d2 fSub (dK (.int 0)) (dV 1)))
    sNext)
  (sRet (dCall fTuple (ac (dLc (iSeq (dV 0)) (gN 2) bYes (d2 fDiv (dV 2) (dV 1)) [2]) a0))))))
theorem ok_law_primitive {f : Addr} {fd : FuncData} {k : Nat} (F : Fun K "_law_primitive" "_law_primitive" s_law_primitive f fd) (M : Names mg) (Z : CtxN P w K mg S) (TNumber : ClsC K (S.cl 0) ["tower", "element"]) (TField : ClsC K (S.cl 1) ["tower", "known_roots"]) {c_law_gcd : List D → Option D} (G_law_gcd : Cal P w K mg base k "_law_gcd" ["a", "b"] (SpD S.cls c_law_gcd)) : FnOk P w K mg base CX0 (k + 1) f fd ["row"] (SpD S.cls (runD 1 3 (den_law_primitive c_law_gcd))) :=
  fn_den F sc_law_primitive fun cdv A outer s H E hr => (ds_cons (ds_set (i := 1) sc_law_primitive.nd dn_int)
  (ds_cons (ds_for PassesOwn.never rfl (di_seq (dn_var (i := 0))) (dg_name (i := 2) sc_law_primitive.nd)
    (ds_one (ds_set (i := 1) sc_law_primitive.nd (dn_call G_law_gcd.ok hr (by rfl) G_law_gcd.m G_law_gcd.kp G_law_gcd.b pass0 (da_cons (dn_var (i := 1)) (da_cons (dn_var (i := 2)) da_nil))))))
  (ds_cons (ds_if (dt_ltA hr.units0 (dn_sub_ix (dn_var (i := 0)) (dn_sub (dn_callB is_len call_len_seq (by rfl) M.len PySem.boot_len (da_cons (dn_var (i := 0)) da_nil)) dn_int) (fun _ _ => rfl)) dn_int)
    (ds_one (ds_set (i := 1) sc_law_primitive.nd (dn_sub dn_int (dn_var (i := 1)))))
    ds_nil)
  (ds_one (ds_ret (dn_callTy (is_tuple (K := K)) call_tuple_of (by rfl) M.tuple (by decide +kernel) (da_cons (dn_lc (own := [("number", 2)]) (by rfl) sc_law_primitive.nd (di_seq (dn_var (i := 0))) (blkOk_by (own := [("number", 2)]) (N := N_law_primitive) (sc := defScope s_law_primitive) (by decide +kernel)) (fun _ _ _ _ _ => (dg_name (i := 2) sc_law_primitive.nd)) (fun _ _ _ _ _ => dts_nil) (fun _ _ _ _ _ => (dn_div (dn_var (i := 2)) (dn_var (i := 1))))) da_nil)))))))
abbrev s_law_words : Stmt := topS 103
abbrev N_law_words : List Str := ["formula", "words", "inner"]
theorem sc_law_words : FnScope N_law_words ["formula"] (defScope s_law_words) := ⟨rfl, rfl, rfl, by decide +kernel, rfl, by decide +kernel, by decide +kernel⟩
def den_law_words (c_law_words : List D → Option D) : List Sl → Option Out :=
  (sSeq (sIf (dAsB (d2 fEq (d2 fIx (dV 0) (dK (.int 0))) (dK (.str "number"))))
    (sRet (dLst (ac (dCall fStr (ac (d2 fIx (dV 0) (dK (.int 1))) a0)) a0)))
    sNext)
  (sSeq (sSet 1 (dLst (ac (d2 fIx (dV 0) (dK (.int 0))) a0)))
  (sSeq (sFor (iSeq (dSl (dV 0) (p1 (dK (.int 1))) p0)) (gN 2)
    (sSet 1 (d2 fAdd (dV 1) (dCall c_law_words (ac (dV 2) a0)))))
  (sRet (dV 1)))))
theorem ok_law_words {f : Addr} {fd : FuncData} {k : Nat} (F : Fun K "_law_words" "_law_words" s_law_words f fd) (M : Names mg) (Z : CtxN P w K mg S) (TNumber : ClsC K (S.cl 0) ["tower", "element"]) (TField : ClsC K (S.cl 1) ["tower", "known_roots"]) {c_law_words : List D → Option D} (G_law_words : Cal P w K mg base k "_law_words" ["formula"] (SpD S.cls c_law_words)) : FnOk P w K mg base CX0 (k + 1) f fd ["formula"] (SpD S.cls (runD 1 3 (den_law_words c_law_words))) :=
  fn_den F sc_law_words fun cdv A outer s H E hr => (ds_cons (ds_if (dt_eq hr.units (dn_sub_ix (dn_var (i := 0)) dn_int (fun _ _ => rfl)) dn_str)
    (ds_one (ds_ret (dn_lst (da_cons (dn_callTy is_strI call_str_int (by rfl) M.str (by decide +kernel) (da_cons (dn_sub_ix (dn_var (i := 0)) dn_int (fun _ _ => rfl)) da_nil)) da_nil))))
    ds_nil)
  (ds_cons (ds_set (i := 1) sc_law_words.nd (dn_lst (da_cons (dn_sub_ix (dn_var (i := 0)) dn_int (fun _ _ => rfl)) da_nil)))
  (ds_cons (ds_for PassesOwn.never rfl (di_seq (dn_slice (dn_var (i := 0)) (dp_some dn_int) dp_none)) (dg_name (i := 2) sc_law_words.nd)
    (ds_one (ds_set (i := 1) sc_law_words.nd (dn_add (dn_var (i := 1)) (dn_call G_law_words.ok hr (by rfl) G_law_words.m G_law_words.kp G_law_words.b pass0 (da_cons (dn_var (i := 2)) da_nil))))))
  (ds_one (ds_ret (dn_var (i := 1)))))))
abbrev s_law_depth : Stmt := topS 104
abbrev N_law_depth : List Str := ["formula", "inner"]
theorem sc_law_depth : FnScope N_law_depth ["formula"] (defScope s_law_depth) := ⟨rfl, rfl, rfl, by decide +kernel, rfl, by decide +kernel, by decide +kernel⟩
def den_law_depth (c_law_depth : List D → Option D) : List Sl → Option Out :=
  (sSeq (sIf (dAsB (d2 fEq (d2 fIx (dV 0) (dK (.int 0))) (dK (.str "number"))))
    (sRet (dK (.int 1)))
    sNext)
  (sRet (d2 fAdd (dK (.int 1)) (dCall fMax (ac (dLc (iSeq (dSl (dV 0) (p1 (dK (.int 1))) p0)) (gN 1) bYes (dCall c_law_depth (ac (dV 1) a0)) [1]) a0)))))
theorem ok_law_depth {f : Addr} {fd : FuncData} {k : Nat} (F : Fun K "_law_depth" "_law_depth" s_law_depth f fd) (M : Names mg) (Z : CtxN P w K mg S) (TNumber : ClsC K (S.cl 0) ["tower", "element"]) (TField : ClsC K (S.cl 1) ["tower", "known_roots"]) {c_law_depth : List D → Option D} (G_law_depth : Cal P w K mg base k "_law_depth" ["formula"] (SpD S.cls c_law_depth)) : FnOk P w K mg base CX0 (k + 1) f fd ["formula"] (SpD S.cls (runD 1 2 (den_law_depth c_law_depth))) :=
  fn_den F sc_law_depth fun cdv A outer s H E hr => (ds_cons (ds_if (dt_eq hr.units (dn_sub_ix (dn_var (i := 0)) dn_int (fun _ _ => rfl)) dn_str)
    (ds_one (ds_ret dn_int))
    ds_nil)
  (ds_one (ds_ret (dn_add dn_int (dn_callB (is_max (K := K)) ((call_max2 rfl).or (cr_max rfl)) (by rfl) M.max (by decide +kernel) (da_cons (dn_lc (own := [("inner", 1)]) (by rfl) sc_law_depth.nd (di_seq (dn_slice (dn_var (i := 0)) (dp_some dn_int) dp_none)) (blkOk_by (own := [("inner", 1)]) (N := N_law_depth) (sc := defScope s_law_depth) (by decide +kernel)) (fun _ _ _ _ _ => (dg_name (i := 1) sc_law_depth.nd)) (fun _ _ _ _ _ => dts_nil) (fun _ _ _ _ _ => (dn_call G_law_depth.ok hr (by rfl) G_law_depth.m G_law_depth.kp G_law_depth.b pass0 (da_cons (dn_var (i := 1)) da_nil)))) da_nil))))))
abbrev s_law_is_small : Stmt := topS 105
abbrev N_law_is_small : List Str := ["formula", "words"]
theorem sc_law_is_small : FnScope N_law_is_small ["formula"] (defScope s_law_is_small) := ⟨rfl, rfl, rfl, by decide +kernel, rfl, by decide +kernel, by decide +kernel⟩
def den_law_is_small (c_law_words : List D → Option D) (c_law_depth : List D → Option D) : List Sl → Option Out :=
  (sSeq (sSet 1 (dCall c_law_words (ac (dV 0) a0)))
  (sRet (vAnd (d2 (fB20 fun i j => decide (i ≤ j)) (dCall fLen (ac (dV 1) a0)) (dK (.int 400))) (vAnd (d2 (fB20 fun i j => decide (i ≤ j)) (dCall fLenS (ac (d2 fJoin (dK (.str " ")) (dV 1)) a0)) (dK (.int 2000))) (d2 (fB20 fun i j => decide (i ≤ j)) (dCall c_law_depth (ac (dV 0) a0)) (dK (.int 60)))))))
theorem ok_law_is_small {f : Addr} {fd : FuncData} {k : Nat} (F : Fun K "_law_is_small" "_law_is_small" s_law_is_small f fd) (M : Names mg) (Z : CtxN P w K mg S) (TNumber : ClsC K (S.cl 0) ["tower", "element"]) (TField : ClsC K (S.cl 1) ["tower", "known_roots"]) {c_law_words : List D → Option D} {c_law_depth : List D → Option D} (G_law_words : Cal P w K mg base k "_law_words" ["formula"] (SpD S.cls c_law_words)) (G_law_depth : Cal P w K mg base k "_law_depth" ["formula"] (SpD S.cls c_law_depth)) : FnOk P w K mg base CX0 (k + 1) f fd ["formula"] (SpD S.cls (runD 1 2 (den_law_is_small c_law_words c_law_depth))) :=
  fn_den F sc_law_is_small fun cdv A outer s H E hr => (ds_cons (ds_set (i := 1) sc_law_is_small.nd (dn_call G_law_words.ok hr (by rfl) G_law_words.m G_law_words.kp G_law_words.b pass0 (da_cons (dn_var (i := 0)) da_nil)))
  (ds_one (ds_ret (dn_andV (dn_le (dn_callB is_len call_len_seq (by rfl) M.len PySem.boot_len (da_cons (dn_var (i := 1)) da_nil)) dn_int) (dn_andV (dn_le (dn_callB is_lenS call_len_str (by rfl) M.len PySem.boot_len (da_cons (dn_join dn_str (dn_var (i := 1))) da_nil)) dn_int) (dn_one (dn_le (dn_call G_law_depth.ok hr (by rfl) G_law_depth.m G_law_depth.kp G_law_depth.b pass0 (da_cons (dn_var (i := 0)) da_nil)) dn_int)))))))
abbrev s_law_is_drawable : Stmt := topS 106
abbrev N_law_is_drawable : List Str := ["n", "rest", "k"]
theorem sc_law_is_drawable : FnScope N_law_is_drawable ["n"] (defScope s_law_is_drawable) := ⟨rfl, rfl, rfl, by decide +kernel, rfl, by decide +kernel, by decide +kernel⟩
def den_law_is_drawable : List Sl → Option Out :=
  (sSeq (sSet 1 (dV 0))
  (sSeq (sFor (iRng r1D (ac (dK (.int 6)) a0)) (gN 2)
    (sIf (dAsB (d2 fEq (d2 fMod (dCall fIntA (ac (dV 1) a0)) (dK (.int 2))) (dK (.int 0))))
      (sSet 1 (d2 fDiv (dV 1) (dK (.int 2))))
      sNext))
  (sRet (d2 fIn (dV 1) (dLst (ac (dK (.int 1)) (ac (dK (.int 3)) (ac (dK (.int 5)) (ac (dK (.int 15)) (ac (dK (.int 17)) a0))))))))))
theorem ok_law_is_drawable {f : Addr} {fd : FuncData} {k : Nat} (F : Fun K "_law_is_drawable" "_law_is_drawable" s_law_is_drawable f fd) (M : Names mg) (Z : CtxN P w K mg S) (TNumber : ClsC K (S.cl 0) ["tower", "element"]) (TField : ClsC K (S.cl 1) ["tower", "known_roots"]) : FnOk P w K mg base CX0 (k + 1) f fd ["n"] (SpD S.cls (runD 1 3 (den_law_is_drawable))) :=
  fn_den F sc_law_is_drawable fun cdv A outer s H E hr => (ds_cons (ds_set (i := 1) sc_law_is_drawable.nd (dn_var (i := 0)))
  (ds_cons (ds_for PassesOwn.never rfl (di_range1 (by rfl) M.range (da_cons dn_int da_nil)) (dg_name (i := 2) sc_law_is_drawable.nd)
    (ds_one (ds_if (dt_eq hr.units (dn_mod (dn_callTy is_intA call_intA (by rfl) M.int (by decide +kernel) (da_cons (dn_var (i := 1)) da_nil)) dn_int) dn_int)
      (ds_one (ds_set (i := 1) sc_law_is_drawable.nd (dn_div (dn_var (i := 1)) dn_int)))
      ds_nil)))
  (ds_one (ds_ret (dn_in (dn_var (i := 1)) (dn_lst (da_cons dn_int (da_cons dn_int (da_cons dn_int (da_cons dn_int (da_cons dn_int da_nil)))))))))))
abbrev s_law_is_corner : Stmt := topS 107
abbrev N_law_is_corner : List Str := ["c", "n", "last", "now", "k", "following"]
theorem sc_law_is_corner : FnScope N_law_is_corner ["c", "n"] (defScope s_law_is_corner) := ⟨rfl, rfl, rfl, by decide +kernel, rfl, by decide +kernel, by decide +kernel⟩
def den_law_is_corner (cNumber_below : List D → Option D) (cmkNumber : FnS) (cNumber___sub__ : List D → Option D) (cNumber___mul__ : List D → Option D) (cNumber___eq__ : List D → Option D) : List Sl → Option Out :=
  (sSeq (sIf (bOr (bNot (dTru (dMethN cNumber_below (dV 0) (ac (dMakeN 0 cmkNumber (ac (dK (.int 1)) a0) [.int 1]) a0)))) (bNot (dTru (dMethN cNumber_below (dMakeN 0 cmkNumber (ac (d2 fSub (d2 fMul (dV 1) (dV 1)) (dK (.int 20))) (ac (d2 fMul (dV 1) (dV 1)) a0)) []) (ac (dV 0) a0)))))
    (sRet (dK (.bl false)))
    sNext)
  (sSeq (sSet 2 (dMakeN 0 cmkNumber (ac (dK (.int 1)) a0) [.int 1]))
  (sSeq (sSet 3 (dV 0))
  (sSeq (sFor (iRng r1D (ac (d2 fSub (dV 1) (dK (.int 1))) a0)) (gN 4)
    (sSeq (sSet 5 (d2N cNumber___sub__ (d2N cNumber___mul__ (d2N cNumber___mul__ (dMakeN 0 cmkNumber (ac (dK (.int 2)) a0) [.int 1]) (dV 0)) (dV 3)) (dV 2)))
    (sSeq (sSet 2 (dV 3))
    (sSet 3 (dV 5)))))
  (sRet (d2N cNumber___eq__ (dV 3) (dMakeN 0 cmkNumber (ac (dK (.int 1)) a0) [.int 1])))))))
theorem ok_law_is_corner {f : Addr} {fd : FuncData} {k : Nat} (F : Fun K "_law_is_corner" "_law_is_corner" s_law_is_corner f fd) (M : Names mg) (Z : CtxN P w K mg S) (TNumber : ClsC K (S.cl 0) ["tower", "element"]) (TField : ClsC K (S.cl 1) ["tower", "known_roots"]) {cNumber_below : List D → Option D} {cmkNumber : FnS} {cNumber___sub__ : List D → Option D} {cNumber___mul__ : List D → Option D} {cNumber___eq__ : List D → Option D} (GNumber_below : MCal P w K mg base k S.cls "below" ["self", "other"] (SpD S.cls cNumber_below)) (GmkNumber : MkD P w K mg base k S 0 "Number" ["self", "n", "d"] cmkNumber 1) (GNumber___sub__ : MCal P w K mg base k S.cls "__sub__" ["self", "other"] (SpD S.cls cNumber___sub__)) (GNumber___mul__ : MCal P w K mg base k S.cls "__mul__" ["self", "other"] (SpD S.cls cNumber___mul__)) (GNumber___eq__ : MCal P w K mg base k S.cls "__eq__" ["self", "other"] (SpD S.cls cNumber___eq__)) : FnOk P w K mg base CX0 (k + 1) f fd ["c", "n"] (SpD S.cls (runD 2 6 (den_law_is_corner cNumber_below cmkNumber cNumber___sub__ cNumber___mul__ cNumber___eq__))) :=
  fn_den F sc_law_is_corner fun cdv A outer s H E hr => (ds_cons (ds_if (PW.pt (dw_or (dt_not (dt_truth (dn_methN (dn_var (i := 0)) Z.N.cls GNumber_below.m GNumber_below.ok hr GNumber_below.b pass0 (da_cons (dn_makeN Z.h0 GmkNumber.m GmkNumber.ok (hr.mono GmkNumber.lt) (by rfl) GmkNumber.h GmkNumber.bd GmkNumber.vd int1_rp pass0 (da_cons dn_int da_nil)) da_nil)))) (dw_or1 (dt_not (dt_truth (dn_methN (dn_makeN Z.h0 GmkNumber.m GmkNumber.ok (hr.mono GmkNumber.lt) (by rfl) GmkNumber.h GmkNumber.b .nil (fun _ _ => .nil) pass0 (da_cons (dn_sub (dn_mul (dn_var (i := 1)) (dn_var (i := 1))) dn_int) (da_cons (dn_mul (dn_var (i := 1)) (dn_var (i := 1))) da_nil))) Z.N.cls GNumber_below.m GNumber_below.ok hr GNumber_below.b pass0 (da_cons (dn_var (i := 0)) da_nil)))))))
    (ds_one (ds_ret dn_bl))
    ds_nil)
  (ds_cons (ds_set (i := 2) sc_law_is_corner.nd (dn_makeN Z.h0 GmkNumber.m GmkNumber.ok (hr.mono GmkNumber.lt) (by rfl) GmkNumber.h GmkNumber.bd GmkNumber.vd int1_rp pass0 (da_cons dn_int da_nil)))
  (ds_cons (ds_set (i := 3) sc_law_is_corner.nd (dn_var (i := 0)))
  (ds_cons (ds_for PassesOwn.never rfl (di_range1 (by rfl) M.range (da_cons (dn_sub (dn_var (i := 1)) dn_int) da_nil)) (dg_name (i := 4) sc_law_is_corner.nd)
    (ds_cons (ds_set (i := 5) sc_law_is_corner.nd (dn_opN GNumber___sub__.ok hr Z.N.sf GNumber___sub__.op GNumber___sub__.b pass0 (dn_opN GNumber___mul__.ok hr Z.N.sf GNumber___mul__.op GNumber___mul__.b pass0 (dn_opN GNumber___mul__.ok hr Z.N.sf GNumber___mul__.op GNumber___mul__.b pass0 (dn_makeN Z.h0 GmkNumber.m GmkNumber.ok (hr.mono GmkNumber.lt) (by rfl) GmkNumber.h GmkNumber.bd GmkNumber.vd int1_rp pass0 (da_cons dn_int da_nil)) (dn_var (i := 0))) (dn_var (i := 3))) (dn_var (i := 2))))
    (ds_cons (ds_set (i := 2) sc_law_is_corner.nd (dn_var (i := 3)))
    (ds_one (ds_set (i := 3) sc_law_is_corner.nd (dn_var (i := 5)))))))
  (ds_one (ds_ret (dn_eqN GNumber___eq__.ok hr GNumber___eq__.op GNumber___eq__.b pass0 (dn_var (i := 3)) (dn_makeN Z.h0 GmkNumber.m GmkNumber.ok (hr.mono GmkNumber.lt) (by rfl) GmkNumber.h GmkNumber.bd GmkNumber.vd int1_rp pass0 (da_cons dn_int da_nil)))))))))
abbrev s_law_is_told : Stmt := topS 108
abbrev N_law_is_told : List Str := ["c", "n", "half", "row", "total", "number", "k"]
theorem sc_law_is_told : FnScope N_law_is_told ["c", "n"] (defScope s_law_is_told) := ⟨rfl, rfl, rfl, by decide +kernel, rfl, by decide +kernel, by decide +kernel⟩
def den_law_is_told (c_law_gcd : List D → Option D) (cNumber_polynomial : List D → Option D) (c_law_primitive : List D → Option D) (cNumber_place : List D → Option D) (cNumber_degree : List D → Option D) (cmkNumber : FnS) (cNumber___add__ : List D → Option D) (cNumber___mul__ : List D → Option D) (cNumber___eq__ : List D → Option D) : List Sl → Option Out :=
  (sSeq (sSet 2 (d2 fDiv (dCall fLen (ac (dLc (iRng r2D (ac (dK (.int 1)) (ac (dV 1) a0))) (gN 6) (dAsB (d2 fEq (dCall c_law_gcd (ac (dV 6) (ac (dV 1) a0))) (dK (.int 1)))) (dV 6) [6]) a0)) (dK (.int 2))))
  (sSeq (sSet 3 (dMethN cNumber_polynomial (dV 0) a0))
  (sSeq (sIf (bOr (dAsB (d2 fNe (dMethN cNumber_degree (dV 0) a0) (dV 2))) (bOr (dAsB (d2 fNe (dMethN cNumber_place (dV 0) a0) (d2 fSub (dV 2) (dK (.int 1))))) (bOr (dAsB (d2 fNe (dCall fLen (ac (dV 3) a0)) (d2 fAdd (dV 2) (dK (.int 1))))) (dAsB (d2 fNe (dCall c_law_primitive (ac (dV 3) a0)) (dV 3))))))
    (sRet (dK (.bl false)))
    sNext)
  (sSeq (sSet 4 (dMakeN 0 cmkNumber (ac (dK (.int 0)) a0) [.int 1]))
  (sSeq (sFor (iRevD (dV 3)) (gN 5)
    (sSet 4 (d2N cNumber___add__ (d2N cNumber___mul__ (dV 4) (dV 0)) (dMakeN 0 cmkNumber (ac (dV 5) a0) [.int 1]))))
  (sRet (d2N cNumber___eq__ (dV 4) (dMakeN 0 cmkNumber (ac (dK (.int 0)) a0) [.int 1]))))))))
theorem ok_law_is_told {f : Addr} {fd : FuncData} {k : Nat} (F : Fun K "_law_is_told" "_law_is_told" s_law_is_told f fd) (M : Names mg) (Z : CtxN P w K mg S) (TNumber : ClsC K (S.cl 0) ["tower", "element"]) (TField : ClsC K (S.cl 1) ["tower", "known_roots"]) {c_law_gcd : List D → Option D} {cNumber_polynomial : List D → Option D} {c_law_primitive : List D → Option D} {cNumber_place : List D → Option D} {cNumber_degree : List D → Option D} {cmkNumber : FnS} {cNumber___add__ : List D → Option D} {cNumber___mul__ : List D → Option D} {cNumber___eq__ : List D → Option D} (G_law_gcd : Cal P w K mg base k "_law_gcd" ["a", "b"] (SpD S.cls c_law_gcd)) (GNumber_polynomial : MCal P w K mg base k S.cls "polynomial" ["self"] (SpD S.cls cNumber_polynomial)) (G_law_primitive : Cal P w K mg base k "_law_primitive" ["row"] (SpD S.cls c_law_primitive)) (GNumber_place : MCal P w K mg base k S.cls "place" ["self"] (SpD S.cls cNumber_place)) (GNumber_degree : MCal P w K mg base k S.cls "degree" ["self"] (SpD S.cls cNumber_degree)) (GmkNumber : MkD P w K mg base k S 0 "Number" ["self", "n", "d"] cmkNumber 1) (GNumber___add__ : MCal P w K mg base k S.cls "__add__" ["self", "other"] (SpD S.cls cNumber___add__)) (GNumber___mul__ : MCal P w K mg base k S.cls "__mul__" ["self", "other"] (SpD S.cls cNumber___mul__)) (GNumber___eq__ : MCal P w K mg base k S.cls "__eq__" ["self", "other"] (SpD S.cls cNumber___eq__)) : FnOk P w K mg base CX0 (k + 1) f fd ["c", "n"] (SpD S.cls (runD 2 7 (den_law_is_told c_law_gcd cNumber_polynomial c_law_primitive cNumber_place cNumber_degree cmkNumber cNumber___add__ cNumber___mul__ cNumber___eq__))) :=
  fn_den F sc_law_is_told fun cdv A outer s H E hr => (ds_cons (ds_set (i := 2) sc_law_is_told.nd (dn_div (dn_callB is_len call_len_seq (by rfl) M.len PySem.boot_len (da_cons (dn_lc (own := [("k", 6)]) (by rfl) sc_law_is_told.nd (di_range2 (by rfl) M.range (da_cons dn_int (da_cons (dn_var (i := 1)) da_nil))) (blkOk_by (own := [("k", 6)]) (N := N_law_is_told) (sc := defScope s_law_is_told) (by decide +kernel)) (fun _ _ _ _ _ => (dg_name (i := 6) sc_law_is_told.nd)) (fun _ _ _ _ _ => (dts_one (dt_eq hr.units (dn_call G_law_gcd.ok hr (by rfl) G_law_gcd.m G_law_gcd.kp G_law_gcd.b pass0 (da_cons (dn_var (i := 6)) (da_cons (dn_var (i := 1)) da_nil))) dn_int))) (fun _ _ _ _ _ => (dn_var (i := 6)))) da_nil)) dn_int))
  (ds_cons (ds_set (i := 3) sc_law_is_told.nd (dn_methN0 (dn_var (i := 0)) Z.N.cls GNumber_polynomial.m GNumber_polynomial.ok hr GNumber_polynomial.b pass0))
  (ds_cons (ds_if (PW.pt (dw_or (dt_ne hr.units (dn_methN0 (dn_var (i := 0)) Z.N.cls GNumber_degree.m GNumber_degree.ok hr GNumber_degree.b pass0) (dn_var (i := 2))) (dw_or (dt_ne hr.units (dn_methN0 (dn_var (i := 0)) Z.N.cls GNumber_place.m GNumber_place.ok hr GNumber_place.b pass0) (dn_sub (dn_var (i := 2)) dn_int)) (dw_or (dt_ne hr.units (dn_callB is_len call_len_seq (by rfl) M.len PySem.boot_len (da_cons (dn_var (i := 3)) da_nil)) (dn_add (dn_var (i := 2)) dn_int)) (dw_or1 (dt_ne hr.units (dn_call G_law_primitive.ok hr (by rfl) G_law_primitive.m G_law_primitive.kp G_law_primitive.b pass0 (da_cons (dn_var (i := 3)) da_nil)) (dn_var (i := 3))))))))
    (ds_one (ds_ret dn_bl))
    ds_nil)
  (ds_cons (ds_set (i := 4) sc_law_is_told.nd (dn_makeN Z.h0 GmkNumber.m GmkNumber.ok (hr.mono GmkNumber.lt) (by rfl) GmkNumber.h GmkNumber.bd GmkNumber.vd int1_rp pass0 (da_cons dn_int da_nil)))
  (ds_cons (ds_for PassesOwn.never rfl (di_rev (by rfl) M.reversed (dn_var (i := 3))) (dg_name (i := 5) sc_law_is_told.nd)
    (ds_one (ds_set (i := 4) sc_law_is_told.nd (dn_opN GNumber___add__.ok hr Z.N.sf GNumber___add__.op GNumber___add__.b pass0 (dn_opN GNumber___mul__.ok hr Z.N.sf GNumber___mul__.op GNumber___mul__.b pass0 (dn_var (i := 4)) (dn_var (i := 0))) (dn_makeN Z.h0 GmkNumber.m GmkNumber.ok (hr.mono GmkNumber.lt) (by rfl) GmkNumber.h GmkNumber.bd GmkNumber.vd int1_rp pass0 (da_cons (dn_var (i := 5)) da_nil))))))
  (ds_one (ds_ret (dn_eqN GNumber___eq__.ok hr GNumber___eq__.op GNumber___eq__.b pass0 (dn_var (i := 4)) (dn_makeN Z.h0 GmkNumber.m GmkNumber.ok (hr.mono GmkNumber.lt) (by rfl) GmkNumber.h GmkNumber.bd GmkNumber.vd int1_rp pass0 (da_cons dn_int da_nil))))))))))
end
end K31

set_option maxHeartbeats 4000000
namespace K31
open PySem PySem.Spec PyProof.Rows L2 KG DN
section
variable {P : Program} {w : World} {K : PySem.W.Frag} {mg : Str → Option Value} {base : Heap} {S : CS}
abbrev slaw : Stmt := topS 109
abbrev Nlaw : List Str := ["script", "state", "n", "told", "c"]
theorem sclaw : FnScope Nlaw ["script"] (defScope slaw) := ⟨rfl, rfl, rfl, by decide +kernel, rfl, by decide +kernel, by decide +kernel⟩
def denlaw (ccorner : List D → Option D) (c_law_is_drawable : List D → Option D) (c_law_is_small : List D → Option D) (cvalue : List D → Option D) (c_law_is_told : List D → Option D) (c_law_is_corner : List D → Option D) (cwrite_formula : List D → Option D) (cread_formula : List D → Option D) : List Sl → Option Out :=
  (sSeq (sSet 3 (dCall ccorner (ac (dV 2) a0)))
  (sSeq (sIf (dAsB (d2 fIsN (dV 3) (dK .non)))
    (sRet (d1 dNot (dCall c_law_is_drawable (ac (dV 2) a0))))
    sNext)
  (sSeq (sIf (bOr (bNot (dTru (d1 fIsTup (dV 3)))) (bOr (bNot (dTru (dCall c_law_is_drawable (ac (dV 2) a0)))) (bOr (bNot (dTru (dCall c_law_is_small (ac (dV 3) a0)))) (dAsB (d2 fNe (dCall ccorner (ac (dV 2) a0)) (dV 3))))))
    (sRet (dK (.bl false)))
    sNext)
  (sSeq (sSet 4 (dCall cvalue (ac (dV 3) a0)))
  (sRet (vAnd (d2 fEq (dCall cread_formula (ac (dCall cwrite_formula (ac (dV 3) a0)) a0)) (dV 3)) (vAnd (dCall c_law_is_corner (ac (dV 4) (ac (dV 2) a0))) (dCall c_law_is_told (ac (dV 4) (ac (dV 2) a0))))))))))
theorem suitelaw {f : Addr} {k : Nat} (M : Names mg) (Z : CtxN P w K mg S) (TNumber : ClsC K (S.cl 0) ["tower", "element"]) (TField : ClsC K (S.cl 1) ["tower", "known_roots"]) {ccorner : List D → Option D} {c_law_is_drawable : List D → Option D} {c_law_is_small : List D → Option D} {cvalue : List D → Option D} {c_law_is_told : List D → Option D} {c_law_is_corner : List D → Option D} {cwrite_formula : List D → Option D} {cread_formula : List D → Option D} (Gcorner : Cal P w K mg base k "corner" ["n"] (SpD S.cls ccorner)) (G_law_is_drawable : Cal P w K mg base k "_law_is_drawable" ["n"] (SpD S.cls c_law_is_drawable)) (G_law_is_small : Cal P w K mg base k "_law_is_small" ["formula"] (SpD S.cls c_law_is_small)) (Gvalue : Cal P w K mg base k "value" ["formula"] (SpD S.cls cvalue)) (G_law_is_told : Cal P w K mg base k "_law_is_told" ["c", "n"] (SpD S.cls c_law_is_told)) (G_law_is_corner : Cal P w K mg base k "_law_is_corner" ["c", "n"] (SpD S.cls c_law_is_corner)) (Gwrite_formula : Cal P w K mg base k "write_formula" ["formula"] (SpD S.cls cwrite_formula)) (Gread_formula : Cal P w K mg base k "read_formula" ["text"] (SpD S.cls cread_formula)) (cdv : Value) (A : Around) (outer : List Env) (s : Shared) (H : Hp) (E : XK) (hr : Room k (A.deeper (envOfC "law" (defScope slaw) s.heap.objs.size f cdv))) : PSs (cxOf CX0 P w K mg base Nlaw "law" (defScope slaw) f cdv A outer s H E).nox ((defBody slaw).drop 2) (tS S.cls (denlaw ccorner c_law_is_drawable c_law_is_small cvalue c_law_is_told c_law_is_corner cwrite_formula cread_formula)) :=
  (ds_cons (ds_set (i := 3) sclaw.nd (dn_call Gcorner.ok hr (by rfl) Gcorner.m Gcorner.kp Gcorner.b pass0 (da_cons (dn_var (i := 2)) da_nil)))
  (ds_cons (ds_if (dt_isN (dn_var (i := 3)))
    (ds_one (ds_ret (dn_not (dn_call G_law_is_drawable.ok hr (by rfl) G_law_is_drawable.m G_law_is_drawable.kp G_law_is_drawable.b pass0 (da_cons (dn_var (i := 2)) da_nil)))))
    ds_nil)
  (ds_cons (ds_if (PW.pt (dw_or (dt_not (dt_truth (dn_isTup (by rfl) M.isinstance (by rfl) M.tuple (dn_var (i := 3))))) (dw_or (dt_not (dt_truth (dn_call G_law_is_drawable.ok hr (by rfl) G_law_is_drawable.m G_law_is_drawable.kp G_law_is_drawable.b pass0 (da_cons (dn_var (i := 2)) da_nil)))) (dw_or (dt_not (dt_truth (dn_call G_law_is_small.ok hr (by rfl) G_law_is_small.m G_law_is_small.kp G_law_is_small.b pass0 (da_cons (dn_var (i := 3)) da_nil)))) (dw_or1 (dt_ne hr.units (dn_call Gcorner.ok hr (by rfl) Gcorner.m Gcorner.kp Gcorner.b pass0 (da_cons (dn_var (i := 2)) da_nil)) (dn_var (i := 3))))))))
    (ds_one (ds_ret dn_bl))
    ds_nil)
  (ds_cons (ds_set (i := 4) sclaw.nd (dn_call Gvalue.ok hr (by rfl) Gvalue.m Gvalue.kp Gvalue.b pass0 (da_cons (dn_var (i := 3)) da_nil)))
  (ds_one (ds_ret (dn_andV (dn_eq hr.units (dn_call Gread_formula.ok hr (by rfl) Gread_formula.m Gread_formula.kp Gread_formula.b pass0 (da_cons (dn_call Gwrite_formula.ok hr (by rfl) Gwrite_formula.m Gwrite_formula.kp Gwrite_formula.b pass0 (da_cons (dn_var (i := 3)) da_nil)) da_nil)) (dn_var (i := 3))) (dn_andV (dn_call G_law_is_corner.ok hr (by rfl) G_law_is_corner.m G_law_is_corner.kp G_law_is_corner.b pass0 (da_cons (dn_var (i := 4)) (da_cons (dn_var (i := 2)) da_nil))) (dn_one (dn_call G_law_is_told.ok hr (by rfl) G_law_is_told.m G_law_is_told.kp G_law_is_told.b pass0 (da_cons (dn_var (i := 4)) (da_cons (dn_var (i := 2)) da_nil))))))))))))
end
end K31

namespace K31
open DN PySem
abbrev Fn := List D → Option D
def fno : Fn := fun _ => none
def finteger_of : Fn := fWord
def fplus : Fn := (runD 2 4 (denplus))
def fminus : Fn := (runD 2 4 (denminus))
def ftimes : Fn := (runD 2 3 (dentimes))
def fpadded : Fn := (runD 2 2 (denpadded))
def flast_generator : Fn := (runD 2 2 (denlast_generator))
def sccmultiplied : Nat → Nat → Fn
  | 0, _ => fno
  | n + 1, 0 => (runD 3 10 (denmultiplied (sccmultiplied n 0) fplus flast_generator (sccmultiplied n 1) fminus))
  | n + 1, 1 => (runD 3 3 (denby_generator (sccmultiplied n 0) ftimes))
  | _ + 1, _ => fno
def fmultiplied : Fn := sccmultiplied 12 0
def fby_generator : Fn := sccmultiplied 12 1
def fnorm : Fn := (runD 2 6 (dennorm fmultiplied flast_generator fby_generator fminus))
def flowest : Fn := (runD 2 4 (denlowest))
def sccinverse : Nat → Nat → Fn
  | 0, _ => fno
  | n + 1, 0 => (runD 2 7 (deninverse flowest (sccinverse n 0) fpadded fnorm fmultiplied ftimes))
  | _ + 1, _ => fno
def finverse : Fn := sccinverse 12 0
def felement_sum : Fn := (runD 2 6 (denelement_sum ftimes fplus flowest))
def felement_difference : Fn := (runD 2 6 (denelement_difference ftimes fminus flowest))
def felement_product : Fn := (runD 3 3 (denelement_product fmultiplied flowest))
def felement_quotient : Fn := (runD 3 5 (denelement_quotient finverse fmultiplied ftimes flowest))
def ffrom_halves : Fn := (runD 2 6 (denfrom_halves ftimes flowest))
def f_shares : Fn := (runD 1 4 (den_shares))
def f_chosen : Fn := (runD 2 4 (den_chosen))
def ftrimmed : Fn := (runD 2 7 (dentrimmed f_shares f_chosen))
def fbound : Fn := (runD 2 7 (denbound))
def f_unit : Fn := (runD 1 1 (den_unit))
def f_root : Fn := (runD 2 4 (den_root))
def f_scaled : Fn := (runD 3 6 (den_scaled))
def fbasis_of : Fn := (runD 2 6 (denbasis_of f_unit fbound f_root f_scaled))
def fsign_of : Fn := (runD 2 5 (densign_of fbasis_of fbound))
def fpositive : Fn := (runD 2 4 (denpositive fsign_of ftimes))
def fapart : Fn := (runD 2 13 (denapart fbasis_of fbound))
def f_bases : Fn := (runD 2 11 (den_bases f_unit fbound f_root f_scaled))
def f_count_below_first : Fn := (runD 1 6 (den_count_below_first))
def fplace_of : Fn := (runD 2 6 (denplace_of f_bases fbound f_count_below_first))
def f_integer_root : Fn := (runD 1 2 (den_integer_root))
def sccsquare_root : Nat → Nat → Fn
  | 0, _ => fno
  | n + 1, 0 => (runD 2 10 (densquare_root f_integer_root (sccsquare_root n 1) (sccsquare_root n 2) (sccsquare_root n 0) flowest finverse fmultiplied ftimes ffrom_halves))
  | n + 1, 1 => (runD 2 6 (den_root_without_last (sccsquare_root n 0) fpadded flast_generator fmultiplied finverse felement_product ffrom_halves))
  | n + 1, 2 => (runD 2 7 (den_means fnorm (sccsquare_root n 0) ftimes fplus))
  | _ + 1, _ => fno
def fsquare_root : Fn := sccsquare_root 12 0
def f_root_without_last : Fn := sccsquare_root 12 1
def f_means : Fn := sccsquare_root 12 2
def f_square_part : Fn := (runD 1 4 (den_square_part))
def fadjoined : Fn := (runD 2 10 (denadjoined ftimes f_square_part fpadded flowest))
def scc_partner : Nat → Nat → Fn
  | 0, _ => fno
  | n + 1, 0 => (runD 3 9 (den_partner f_means flast_generator fmultiplied (scc_partner n 0)))
  | _ + 1, _ => fno
def f_partner : Fn := scc_partner 12 0
def fnew_squares : Fn := (runD 2 5 (dennew_squares f_partner))
def fwidened : Fn := (runD 2 2 (denwidened fpadded))
def sccimage : Nat → Nat → Fn
  | 0, _ => fno
  | n + 1, 0 => (runD 3 8 (denimage fpadded (sccimage n 0) fwidened felement_product felement_sum))
  | _ + 1, _ => fno
def fimage : Fn := sccimage 12 0
def fimage_of_element : Fn := (runD 3 5 (denimage_of_element fimage flowest))
def froot_in : Fn := (runD 2 5 (denroot_in ftimes fsquare_root flowest fpositive))
def f_known_root : Fn := (runD 2 7 (den_known_root fpadded froot_in))
def fjoined : Fn := (runD 3 7 (denjoined fimage f_known_root fadjoined))
def fprimitive : Fn := (runD 1 3 (denprimitive))
def f_polynomial_square : Fn := (runD 2 7 (den_polynomial_square fmultiplied ftimes fplus))
def fcharacteristic : Fn := (runD 3 11 (dencharacteristic fpadded ftimes f_polynomial_square fby_generator fminus))
def f_polynomial_root : Fn := (runD 2 7 (den_polynomial_root felement_product felement_difference flowest))
def f_least_terms : Fn := (runD 3 6 (den_least_terms fcharacteristic f_polynomial_root))
def f_degree : Fn := (runD 3 3 (den_degree f_least_terms))
def fleast_polynomial : Fn := (runD 2 8 (denleast_polynomial f_least_terms fprimitive))
def f_with_root_below : Fn := (runD 4 14 (den_with_root_below fnew_squares fpadded fmultiplied fadjoined fjoined fimage_of_element f_degree))
def fleast_field : Fn := (runD 2 4 (denleast_field f_degree f_with_root_below))
def f_rank : Fn := (runD 1 4 (den_rank))
def scc_in_one_tower : Nat → Nat → Fn
  | 0, _ => fno
  | n + 1, 0 => (runD 3 7 (den_in_one_tower f_rank (scc_in_one_tower n 0) fjoined fimage_of_element fwidened))
  | _ + 1, _ => fno
def f_in_one_tower : Fn := scc_in_one_tower 12 0
def ftogether : Fn := (runD 2 5 (dentogether f_in_one_tower fleast_field))
def fwhole_element : Fn := (runD 1 1 (denwhole_element))
def f_alike : Fn := (runD 2 3 (den_alike fwidened))
def f_shortest : Fn := (runD 1 3 (den_shortest))
def fNumber___init__ : FnS := (runS 3 3 (denNumber___init__ flowest))
def fnumber_in : Fn := (frz 0 (runS 2 5 (dennumber_in ftrimmed fNumber___init__)))
def f_both : Fn := (runD 2 2 (den_both ftogether))
def f_order : Fn := (runD 2 6 (den_order fapart f_both felement_difference fsign_of))
def fNumber___add__ : Fn := (runD 2 5 (denNumber___add__ f_both felement_sum fnumber_in))
def fNumber___sub__ : Fn := (runD 2 5 (denNumber___sub__ f_both felement_difference fnumber_in))
def fNumber___mul__ : Fn := (runD 2 5 (denNumber___mul__ f_both felement_product fnumber_in))
def fNumber___eq__ : Fn := (runD 2 2 (denNumber___eq__ f_order))
def fNumber_below : Fn := (runD 2 2 (denNumber_below f_order))
def fNumber_polynomial : Fn := (runD 1 1 (denNumber_polynomial fleast_polynomial))
def fNumber_degree : Fn := (runD 1 1 (denNumber_degree fNumber_polynomial))
def fNumber_place : Fn := (runD 1 3 (denNumber_place fleast_field fplace_of))
def fField___init__ : FnS := (runS 1 1 (denField___init__))
def fField_number : FnS := (runS 2 2 (denField_number fnumber_in))
def fField_plus : FnS := (runS 3 3 (denField_plus f_alike felement_sum f_shortest))
def fField_minus : FnS := (runS 3 3 (denField_minus f_alike felement_difference f_shortest))
def fField_product : FnS := (runS 3 3 (denField_product f_alike f_shortest felement_product))
def fField_inverted : FnS := (runS 2 6 (denField_inverted finverse ftimes flowest f_shortest))
def fField_quotient : FnS := (runS 3 3 (denField_quotient fField_product fField_inverted))
def fField_negative : FnS := (runS 2 4 (denField_negative ftimes))
def fField_sign : FnS := (runS 2 2 (denField_sign fsign_of))
def fField__found_root : FnS := (runS 2 4 (denField__found_root fwidened froot_in fadjoined f_shortest))
def fField_root : FnS := (runS 2 2 (denField_root fField__found_root))
def f_fault : Fn := (runD 1 5 (den_fault finteger_of))
def fread_formula : Fn := (pln (runS 1 7 (denread_formula f_fault)))
def fwrite_formula : Fn := (runD 1 4 (denwrite_formula))
def f_inside_first : Fn := (runD 1 4 (den_inside_first))
def f_combined : FnS := (runS 3 4 (den_combined fField_plus fField_minus fField_product fField_negative fField_sign fField_quotient fField_root))
def fworked_out : FnS := (runS 2 8 (denworked_out f_inside_first fwhole_element f_combined))
def fvalue : Fn := (pln (runS 1 3 (denvalue fField___init__ fworked_out fField_number)))
def f_corner_of_17 : Fn := (runD 0 3 (den_corner_of_17))
def f_of_half_the_angle : Fn := (runD 1 1 (den_of_half_the_angle))
def fcorner : Fn := (runD 1 6 (dencorner f_corner_of_17 fread_formula f_of_half_the_angle))
def f_law_gcd : Fn := (runD 2 6 (den_law_gcd))
def f_law_primitive : Fn := (runD 1 3 (den_law_primitive f_law_gcd))
def scc_law_words : Nat → Nat → Fn
  | 0, _ => fno
  | n + 1, 0 => (runD 1 3 (den_law_words (scc_law_words n 0)))
  | _ + 1, _ => fno
def f_law_words : Fn := scc_law_words 70 0
def scc_law_depth : Nat → Nat → Fn
  | 0, _ => fno
  | n + 1, 0 => (runD 1 2 (den_law_depth (scc_law_depth n 0)))
  | _ + 1, _ => fno
def f_law_depth : Fn := scc_law_depth 70 0
def f_law_is_small : Fn := (runD 1 2 (den_law_is_small f_law_words f_law_depth))
def f_law_is_drawable : Fn := (runD 1 3 (den_law_is_drawable))
def f_law_is_corner : Fn := (runD 2 6 (den_law_is_corner fNumber_below fNumber___init__ fNumber___sub__ fNumber___mul__ fNumber___eq__))
def f_law_is_told : Fn := (runD 2 7 (den_law_is_told f_law_gcd fNumber_polynomial f_law_primitive fNumber_place fNumber_degree fNumber___init__ fNumber___add__ fNumber___mul__ fNumber___eq__))
def flaw : List Sl → Option Out := (denlaw fcorner f_law_is_drawable f_law_is_small fvalue f_law_is_told f_law_is_corner fwrite_formula fread_formula)
end K31

/-! small things that the laws' own bodies share -/
namespace KG
open PySem PySem.Spec PyProof.Rows L2
theorem same_but {p : Addr} {H H1 H2 : Hp} (s : Same H H1) (b : But p H1 H2) (n : H p = none) : Same H H2 := fun c o e => b c o (fun z => by rw [z, n] at e; cases e) (s c o e)
theorem seqO {K : PySem.W.Frag} {p a : Addr} {H H1 : Hp} {xs : List V} (h : SqL K H a xs) (n : H p = none) (s : Same H H1) : SqO K H1 p a xs := fun o => Same.seq (same_put s n) h
theorem cut_one (xs : List V) : (cutV xs none (some 1)).length ≤ 1 := by
  unfold cutV
  rw [HT.sIx_none, List.length_take, show HT.sIx xs.length xs.length (some 1) = min 1 xs.length from HT.sIx_nat _ _ 1]
  omega
theorem ne_lists {K : PySem.W.Frag} {H : Hp} {a b : Addr} {r q : List Int} {Q : VK} (h1 : SqL K H a (r.map V.int)) (h2 : SqL K H b (q.map V.int)) (k : Q (.bl (!decide (r = q))) H) : rNeD K (.ref a) (.ref b) H Q :=
  ⟨_, _, .lst h1 (dp_all r), .lst h2 (dp_all q), shaped_l r, shaped_l q, by rw [eqv_l]; exact k⟩
theorem small_new {ss : List Stp} {m : Int} {s : Stp} (h : SNew ss m s) (hm : m < 2 ^ 1000) (hl : ss.length ≤ 100000) : ∀ n ∈ s.ns, n.natAbs.log2 < 1920 := by
  have lg : ∀ n : Int, n.natAbs < 2 ^ 1000 → n.natAbs.log2 < 1920 := fun n h => log_small (n := 1000) h (by decide) (by decide)
  have big : (100000 : Nat) < 2 ^ 1000 := by decide +kernel
  have hm' : ∀ n : Int, -m ≤ n → n ≤ m → n.natAbs < 2 ^ 1000 := fun n a b => by
    have e : ((2 ^ 1000 : Nat) : Int) = (2 : Int) ^ 1000 := by decide +kernel
    have h3 : (n.natAbs : Int) ≤ m := by omega
    have h4 : (n.natAbs : Int) < ((2 ^ 1000 : Nat) : Int) := by rw [e]; exact Int.lt_of_le_of_lt h3 hm
    exact Int.ofNat_lt.mp h4
  have nm : ∀ b i, Nm1 ss b i → i.natAbs < 2 ^ 1000 := fun b i ⟨h0, s, hs, _⟩ => by
    have := (List.getElem?_eq_some_iff.mp hs).1
    exact Nat.lt_of_lt_of_le (show i.natAbs < 100001 by omega) big
  rcases h with ⟨x, y, rfl, a, b, c, d⟩ | ⟨i, j, rfl, a, b⟩ | ⟨i, j, k, rfl, a, b, c⟩ | ⟨i, j, w, rfl, a, b, c, d⟩
  · intro n hn
    rcases List.mem_cons.mp hn with rfl | hn
    · exact lg _ (hm' _ a b)
    · rw [List.mem_singleton.mp hn]; exact lg _ (hm' _ c d)
  · intro n hn
    rcases List.mem_cons.mp hn with rfl | hn
    · exact lg _ (nm _ _ a)
    · rw [List.mem_singleton.mp hn]; exact lg _ (nm _ _ b)
  · intro n hn
    rcases List.mem_cons.mp hn with rfl | hn
    · exact lg _ (nm _ _ a)
    rcases List.mem_cons.mp hn with rfl | hn
    · exact lg _ (nm _ _ b)
    · rw [List.mem_singleton.mp hn]; exact lg _ (nm _ _ c)
  · intro n hn
    rcases List.mem_cons.mp hn with rfl | hn
    · exact lg _ (nm _ _ a)
    rcases List.mem_cons.mp hn with rfl | hn
    · exact lg _ (nm _ _ b)
    · rw [List.mem_singleton.mp hn]; exact lg _ (Nat.lt_of_lt_of_le (show w.natAbs < 100001 by omega) big)
/-- a def that may raise, asked where it doesn't -/
theorem quiet {P : Program} {w : World} {K : PySem.W.Frag} {mg : Str → Option Value} {base : Heap} {k : Nat} {f : Addr} {fd : FuncData} {ps : List Str} {sp : Sp} (F : FnOk P w K mg base (L2.CX P w) k f fd ps sp) : FnOk P w K mg base CX0 k f fd ps (fun vs H Q _ => sp vs H Q fun _ _ _ => False) :=
  ⟨fun vs H Q E q => F.len _ _ _ _ q, fun A outer s H args us vs Q E hr he hb hv hs => codeAny_mono (F.run A outer s H args us vs Q _ hr he hb hv hs) fun r s2 h => by
    match r, h with
    | .ok (.ret u), h => exact h
    | .ok .next, h => exact False.elim h
    | .ok .brk, h => exact False.elim h
    | .ok .cont, h => exact False.elim h
    | .error e, h =>
      obtain ⟨_, _, _, _, _, _, _, _, _, _, _, _, h⟩ := h
      exact False.elim h⟩
end KG

set_option maxHeartbeats 4000000
namespace K31
open PySem PySem.Spec PyProof.Rows L2 KG DN
def okN (n : Int) : Bool := match flaw [.off, .off, .val (.int n), .off, .off] with
  | some (.rt (.bl true)) => true
  | _ => false
theorem okN_out {n : Int} (h : okN n = true) : flaw [.off, .off, .val (.int n), .off, .off] = some (.rt (.bl true)) := by
  unfold okN at h
  split at h
  · assumption
  · cases h
section
variable {P : Program} {w : World} {K : PySem.W.Frag} {mg : Str → Option Value} {base : Heap} {S : CS}
theorem oklaw (hall : ∀ d : Int, 0 ≤ d → d < 48 → okN (3 + d) = true) {f : Addr} {fd : FuncData} {k : Nat} (F : Fun K "law" "law" slaw f fd) (M : Names mg) (G_law_state : Cal P w K mg base k "_law_state" ["script"] (sp_law_state K)) (G_law_take : Cal P w K mg base k "_law_take" ["state", "many"] (sp_law_take K))
    (suite : ∀ (cdv : Value) (A : Around) (outer : List Env) (s : Shared) (H : Hp) (E : XK) (hr : Room k (A.deeper (envOfC "law" (defScope slaw) s.heap.objs.size f cdv))), PSs (cxOf CX0 P w K mg base Nlaw "law" (defScope slaw) f cdv A outer s H E).nox ((defBody slaw).drop 2) (tS S.cls flaw)) :
    FnOk P w K mg base CX0 (k + 1) f fd ["script"] (splaw K) := by
  refine F.ok sclaw (fun vs H Q E h => ?_) (fun cdv A outer s H vs Q E hr h => ?_)
  · obtain ⟨a, ns, rfl, _⟩ := h
    rfl
  obtain ⟨a, ns, rfl, hS, h63, fin⟩ := h
  refine ⟨_, (pss_cons (ps_set (i := 1) sclaw.nd rfl (.inl rfl) (pe_call G_law_state.ok hr (by rfl) G_law_state.m G_law_state.kp G_law_state.b .nil pass0 (pa_cons (pv 0) pa_nil)))
    (pss_cons (ps_set (i := 2) sclaw.nd rfl (.inl rfl) (pe_op op_add pe_int (pe_call G_law_take.ok hr (by rfl) G_law_take.m G_law_take.kp G_law_take.b .nil pass0 (pa_cons (pv 1) (pa_cons pe_int pa_nil)))))
    (suite cdv A outer s H E hr))), ?_⟩
  refine ⟨_, rfl, a, ns, rfl, hS, h63, fun H1 p s1 hp X1 _ => ?_⟩
  refine ⟨_, rfl, p, a, ns, 48, rfl, X1, seqO hS hp s1, by decide, by decide, fun d H2 d0 d1 X2 b2 => ⟨_, _, rfl, rfl, ?_⟩⟩
  have e := okN_out (hall d d0 d1)
  refine ⟨[], fun _ => none, fun _ => none, fun _ => none, _, _, ⟨fun _ _ h => h, fun _ _ h => (by cases h), fun _ _ h => (by cases h), fun _ _ h => (by cases h)⟩, ⟨rfl, fun i x h => ?_, fun i x h => ?_, fun i j x y b h => ?_, fun a ha => (by cases ha)⟩, e, fun G H3 v x r => ?_⟩
  · match i, h with
    | 2, h => cases h; exact ⟨_, rfl, .int _⟩
    | 0, h => cases h
    | 1, h => cases h
    | 3, h => cases h
    | 4, h => cases h
    | n + 5, h => simp at h
  · match i, h with
    | 0, h => cases h
    | 1, h => cases h
    | 2, h => cases h
    | 3, h => cases h
    | 4, h => cases h
    | n + 5, h => simp at h
  · match i, h with
    | 0, h => cases h
    | 1, h => cases h
    | 2, h => cases h
    | 3, h => cases h
    | 4, h => cases h
    | n + 5, h => simp at h
  · cases r
    exact fin H3
end
end K31

namespace K31
open PySem PySem.Spec PyProof.Rows L2 KG DN
theorem ok_word {P : Program} {w : World} {K : PySem.W.Frag} {mg : Str → Option Value} {base : Heap} {C f : Addr} {fd : FuncData} {k : Nat} (F : Fun K "integer_of" "integer_of" sinteger_of f fd) (M : Names mg) : FnOk P w K mg base CX0 (k + 1) f fd ["word"] (SpD C fWord) := by
  obtain ⟨t, gM⟩ := M.MOST_DIGITS
  refine (ok_integer_of F M gM).imp fun vs H Q E ⟨A, G, ds, d, cl, sm, r, hd, kk⟩ => ?_
  unfold fWord at hd
  split at hd
  · split at hd
    · rename_i x hz
      cases r with
      | cons r1 r2 =>
        cases r2
        cases r1
        refine ⟨x, rfl, by have := of_decide_eq_true hz; omega, fun n hw hn hs => ?_, fun hw => ?_⟩
        · rw [if_pos hw] at hd
          obtain ⟨m, h1, hd⟩ := obind hd
          rw [hn] at h1
          cases h1
          rw [if_pos hs] at hd
          cases hd
          exact kk G H _ (.refl sm) (.int n)
        · rw [hw, if_neg Bool.false_ne_true] at hd
          cases hd
          exact kk G H _ (.refl sm) .non
    · cases hd
  · cases hd
end K31

set_option maxHeartbeats 4000000
namespace K31
open PySem PySem.Spec PyProof.Rows L2 KG DN
section
variable {P : Program} {w : World} {K : PySem.W.Frag} {mg : Str → Option Value} {base : Heap} {S : CS} {k : Nat}
theorem rec_sccmultiplied (M : Names mg) (Dmultiplied : DefE K mg "multiplied" smultiplied ["tower", "one", "other"]) (Dby_generator : DefE K mg "by_generator" sby_generator ["tower", "generator", "vector"]) (Gplus : Cal P w K mg base k "plus" ["one", "other"] (SpD S.cls fplus)) (Glast_generator : Cal P w K mg base k "last_generator" ["tower", "vector"] (SpD S.cls flast_generator)) (Gminus : Cal P w K mg base k "minus" ["one", "other"] (SpD S.cls fminus)) (Gtimes : Cal P w K mg base k "times" ["vector", "factor"] (SpD S.cls ftimes)) : ∀ n : Nat, FnOk P w K mg base CX0 (k + n) Dmultiplied.f Dmultiplied.fd ["tower", "one", "other"] (SpD S.cls (sccmultiplied n 0)) ∧ FnOk P w K mg base CX0 (k + n) Dby_generator.f Dby_generator.fd ["tower", "generator", "vector"] (SpD S.cls (sccmultiplied n 1))
  | 0 => ⟨fn_none fun _ => rfl, fn_none fun _ => rfl⟩
  | n + 1 => by
    have ih := rec_sccmultiplied M Dmultiplied Dby_generator Gplus Glast_generator Gminus Gtimes n
    exact ⟨okmultiplied Dmultiplied.F M (Dmultiplied.cal ih.1) (Gplus.lift (Nat.le_add_right k n)) (Glast_generator.lift (Nat.le_add_right k n)) (Dby_generator.cal ih.2) (Gminus.lift (Nat.le_add_right k n)), okby_generator Dby_generator.F M (Dmultiplied.cal ih.1) (Gtimes.lift (Nat.le_add_right k n))⟩
theorem rec_sccinverse (M : Names mg) (Dinverse : DefE K mg "inverse" sinverse ["tower", "vector"]) (Glowest : Cal P w K mg base k "lowest" ["vector", "scale"] (SpD S.cls flowest)) (Gpadded : Cal P w K mg base k "padded" ["vector", "size"] (SpD S.cls fpadded)) (Gnorm : Cal P w K mg base k "norm" ["tower", "vector"] (SpD S.cls fnorm)) (Gmultiplied : Cal P w K mg base k "multiplied" ["tower", "one", "other"] (SpD S.cls fmultiplied)) (Gtimes : Cal P w K mg base k "times" ["vector", "factor"] (SpD S.cls ftimes)) : ∀ n : Nat, FnOk P w K mg base CX0 (k + n) Dinverse.f Dinverse.fd ["tower", "vector"] (SpD S.cls (sccinverse n 0))
  | 0 => fn_none fun _ => rfl
  | n + 1 => by
    have ih := rec_sccinverse M Dinverse Glowest Gpadded Gnorm Gmultiplied Gtimes n
    exact okinverse Dinverse.F M (Glowest.lift (Nat.le_add_right k n)) (Dinverse.cal ih) (Gpadded.lift (Nat.le_add_right k n)) (Gnorm.lift (Nat.le_add_right k n)) (Gmultiplied.lift (Nat.le_add_right k n)) (Gtimes.lift (Nat.le_add_right k n))
theorem rec_sccsquare_root (M : Names mg) (Dsquare_root : DefE K mg "square_root" ssquare_root ["tower", "vector"]) (D_root_without_last : DefE K mg "_root_without_last" s_root_without_last ["tower", "vector"]) (D_means : DefE K mg "_means" s_means ["tower", "vector"]) (G_integer_root : Cal P w K mg base k "_integer_root" ["n"] (SpD S.cls f_integer_root)) (Glowest : Cal P w K mg base k "lowest" ["vector", "scale"] (SpD S.cls flowest)) (Ginverse : Cal P w K mg base k "inverse" ["tower", "vector"] (SpD S.cls finverse)) (Gmultiplied : Cal P w K mg base k "multiplied" ["tower", "one", "other"] (SpD S.cls fmultiplied)) (Gtimes : Cal P w K mg base k "times" ["vector", "factor"] (SpD S.cls ftimes)) (Gfrom_halves : Cal P w K mg base k "from_halves" ["low", "high"] (SpD S.cls ffrom_halves)) (Gpadded : Cal P w K mg base k "padded" ["vector", "size"] (SpD S.cls fpadded)) (Glast_generator : Cal P w K mg base k "last_generator" ["tower", "vector"] (SpD S.cls flast_generator)) (Gelement_product : Cal P w K mg base k "element_product" ["tower", "one", "other"] (SpD S.cls felement_product)) (Gnorm : Cal P w K mg base k "norm" ["tower", "vector"] (SpD S.cls fnorm)) (Gplus : Cal P w K mg base k "plus" ["one", "other"] (SpD S.cls fplus)) : ∀ n : Nat, FnOk P w K mg base CX0 (k + n) Dsquare_root.f Dsquare_root.fd ["tower", "vector"] (SpD S.cls (sccsquare_root n 0)) ∧ FnOk P w K mg base CX0 (k + n) D_root_without_last.f D_root_without_last.fd ["tower", "vector"] (SpD S.cls (sccsquare_root n 1)) ∧ FnOk P w K mg base CX0 (k + n) D_means.f D_means.fd ["tower", "vector"] (SpD S.cls (sccsquare_root n 2))
  | 0 => ⟨fn_none fun _ => rfl, fn_none fun _ => rfl, fn_none fun _ => rfl⟩
  | n + 1 => by
    have ih := rec_sccsquare_root M Dsquare_root D_root_without_last D_means G_integer_root Glowest Ginverse Gmultiplied Gtimes Gfrom_halves Gpadded Glast_generator Gelement_product Gnorm Gplus n
    exact ⟨oksquare_root Dsquare_root.F M (G_integer_root.lift (Nat.le_add_right k n)) (D_root_without_last.cal ih.2.1) (D_means.cal ih.2.2) (Dsquare_root.cal ih.1) (Glowest.lift (Nat.le_add_right k n)) (Ginverse.lift (Nat.le_add_right k n)) (Gmultiplied.lift (Nat.le_add_right k n)) (Gtimes.lift (Nat.le_add_right k n)) (Gfrom_halves.lift (Nat.le_add_right k n)), ok_root_without_last D_root_without_last.F M (Dsquare_root.cal ih.1) (Gpadded.lift (Nat.le_add_right k n)) (Glast_generator.lift (Nat.le_add_right k n)) (Gmultiplied.lift (Nat.le_add_right k n)) (Ginverse.lift (Nat.le_add_right k n)) (Gelement_product.lift (Nat.le_add_right k n)) (Gfrom_halves.lift (Nat.le_add_right k n)), ok_means D_means.F M (Gnorm.lift (Nat.le_add_right k n)) (Dsquare_root.cal ih.1) (Gtimes.lift (Nat.le_add_right k n)) (Gplus.lift (Nat.le_add_right k n))⟩
theorem rec_scc_partner (M : Names mg) (D_partner : DefE K mg "_partner" s_partner ["tower", "size", "vector"]) (G_means : Cal P w K mg base k "_means" ["tower", "vector"] (SpD S.cls f_means)) (Glast_generator : Cal P w K mg base k "last_generator" ["tower", "vector"] (SpD S.cls flast_generator)) (Gmultiplied : Cal P w K mg base k "multiplied" ["tower", "one", "other"] (SpD S.cls fmultiplied)) : ∀ n : Nat, FnOk P w K mg base CX0 (k + n) D_partner.f D_partner.fd ["tower", "size", "vector"] (SpD S.cls (scc_partner n 0))
  | 0 => fn_none fun _ => rfl
  | n + 1 => by
    have ih := rec_scc_partner M D_partner G_means Glast_generator Gmultiplied n
    exact ok_partner D_partner.F M (G_means.lift (Nat.le_add_right k n)) (Glast_generator.lift (Nat.le_add_right k n)) (Gmultiplied.lift (Nat.le_add_right k n)) (D_partner.cal ih)
theorem rec_sccimage (M : Names mg) (Dimage : DefE K mg "image" simage ["tower", "images", "vector"]) (Gpadded : Cal P w K mg base k "padded" ["vector", "size"] (SpD S.cls fpadded)) (Gwidened : Cal P w K mg base k "widened" ["element", "size"] (SpD S.cls fwidened)) (Gelement_product : Cal P w K mg base k "element_product" ["tower", "one", "other"] (SpD S.cls felement_product)) (Gelement_sum : Cal P w K mg base k "element_sum" ["one", "other"] (SpD S.cls felement_sum)) : ∀ n : Nat, FnOk P w K mg base CX0 (k + n) Dimage.f Dimage.fd ["tower", "images", "vector"] (SpD S.cls (sccimage n 0))
  | 0 => fn_none fun _ => rfl
  | n + 1 => by
    have ih := rec_sccimage M Dimage Gpadded Gwidened Gelement_product Gelement_sum n
    exact okimage Dimage.F M (Gpadded.lift (Nat.le_add_right k n)) (Dimage.cal ih) (Gwidened.lift (Nat.le_add_right k n)) (Gelement_product.lift (Nat.le_add_right k n)) (Gelement_sum.lift (Nat.le_add_right k n))
theorem rec_scc_in_one_tower (M : Names mg) (D_in_one_tower : DefE K mg "_in_one_tower" s_in_one_tower ["one", "other", "most"]) (G_rank : Cal P w K mg base k "_rank" ["tower"] (SpD S.cls f_rank)) (Gjoined : Cal P w K mg base k "joined" ["tower", "other", "most"] (SpD S.cls fjoined)) (Gimage_of_element : Cal P w K mg base k "image_of_element" ["tower", "images", "element"] (SpD S.cls fimage_of_element)) (Gwidened : Cal P w K mg base k "widened" ["element", "size"] (SpD S.cls fwidened)) : ∀ n : Nat, FnOk P w K mg base CX0 (k + n) D_in_one_tower.f D_in_one_tower.fd ["one", "other", "most"] (SpD S.cls (scc_in_one_tower n 0))
  | 0 => fn_none fun _ => rfl
  | n + 1 => by
    have ih := rec_scc_in_one_tower M D_in_one_tower G_rank Gjoined Gimage_of_element Gwidened n
    exact ok_in_one_tower D_in_one_tower.F M (G_rank.lift (Nat.le_add_right k n)) (D_in_one_tower.cal ih) (Gjoined.lift (Nat.le_add_right k n)) (Gimage_of_element.lift (Nat.le_add_right k n)) (Gwidened.lift (Nat.le_add_right k n))
theorem rec_scc_law_words (M : Names mg) (Z : CtxN P w K mg S) (TNumber : ClsC K (S.cl 0) ["tower", "element"]) (TField : ClsC K (S.cl 1) ["tower", "known_roots"]) (D_law_words : DefE K mg "_law_words" s_law_words ["formula"]) : ∀ n : Nat, FnOk P w K mg base CX0 (k + n) D_law_words.f D_law_words.fd ["formula"] (SpD S.cls (scc_law_words n 0))
  | 0 => fn_none fun _ => rfl
  | n + 1 => by
    have ih := rec_scc_law_words M Z TNumber TField D_law_words n
    exact ok_law_words D_law_words.F M Z TNumber TField (D_law_words.cal ih)
theorem rec_scc_law_depth (M : Names mg) (Z : CtxN P w K mg S) (TNumber : ClsC K (S.cl 0) ["tower", "element"]) (TField : ClsC K (S.cl 1) ["tower", "known_roots"]) (D_law_depth : DefE K mg "_law_depth" s_law_depth ["formula"]) : ∀ n : Nat, FnOk P w K mg base CX0 (k + n) D_law_depth.f D_law_depth.fd ["formula"] (SpD S.cls (scc_law_depth n 0))
  | 0 => fn_none fun _ => rfl
  | n + 1 => by
    have ih := rec_scc_law_depth M Z TNumber TField D_law_depth n
    exact ok_law_depth D_law_depth.F M Z TNumber TField (D_law_depth.cal ih)
set_option maxHeartbeats 0 in
theorem chain (hall : ∀ d : Int, 0 ≤ d → d < 48 → okN (3 + d) = true) {f : Addr} {fd : FuncData} (F : Fun K "law" "law" slaw f fd) (M : Names mg) (Z : CtxN P w K mg S) (TNumber : ClsC K (S.cl 0) ["tower", "element"]) (TField : ClsC K (S.cl 1) ["tower", "known_roots"]) {aPARTS : Addr} (DPARTS : mg "PARTS" = some (.ref aPARTS) ∧ KDi K w aPARTS partsD) {aCORNERS : Addr} (DCORNERS : mg "CORNERS" = some (.ref aCORNERS) ∧ KDj K w aCORNERS cornersD) (Dinteger_of : DefE K mg "integer_of" sinteger_of ["word"]) (D_law_state : DefE K mg "_law_state" s_law_state ["script"]) (D_law_take : DefE K mg "_law_take" s_law_take ["state", "many"]) (Dplus : DefE K mg "plus" splus ["one", "other"]) (Dminus : DefE K mg "minus" sminus ["one", "other"]) (Dtimes : DefE K mg "times" stimes ["vector", "factor"]) (Dpadded : DefE K mg "padded" spadded ["vector", "size"]) (Dlast_generator : DefE K mg "last_generator" slast_generator ["tower", "vector"]) (Dmultiplied : DefE K mg "multiplied" smultiplied ["tower", "one", "other"]) (Dby_generator : DefE K mg "by_generator" sby_generator ["tower", "generator", "vector"]) (Dnorm : DefE K mg "norm" snorm ["tower", "vector"]) (Dlowest : DefE K mg "lowest" slowest ["vector", "scale"]) (Dinverse : DefE K mg "inverse" sinverse ["tower", "vector"]) (Delement_sum : DefE K mg "element_sum" selement_sum ["one", "other"]) (Delement_difference : DefE K mg "element_difference" selement_difference ["one", "other"]) (Delement_product : DefE K mg "element_product" selement_product ["tower", "one", "other"]) (Delement_quotient : DefE K mg "element_quotient" selement_quotient ["tower", "one", "other"]) (Dfrom_halves : DefE K mg "from_halves" sfrom_halves ["low", "high"]) (D_shares : DefE K mg "_shares" s_shares ["vector"]) (D_chosen : DefE K mg "_chosen" s_chosen ["vector", "needed"]) (Dtrimmed : DefE K mg "trimmed" strimmed ["tower", "element"]) (Dbound : DefE K mg "bound" sbound ["vector", "basis"]) (D_unit : DefE K mg "_unit" s_unit ["bits"]) (D_root : DefE K mg "_root" s_root ["square", "bits"]) (D_scaled : DefE K mg "_scaled" s_scaled ["one", "other", "bits"]) (Dbasis_of : DefE K mg "basis_of" sbasis_of ["tower", "bits"]) (Dsign_of : DefE K mg "sign_of" ssign_of ["tower", "vector"]) (Dpositive : DefE K mg "positive" spositive ["tower", "element"]) (Dapart : DefE K mg "apart" sapart ["one", "other"]) (D_bases : DefE K mg "_bases" s_bases ["tower", "bits"]) (D_count_below_first : DefE K mg "_count_below_first" s_count_below_first ["found"]) (Dplace_of : DefE K mg "place_of" splace_of ["tower", "vector"]) (D_integer_root : DefE K mg "_integer_root" s_integer_root ["n"]) (Dsquare_root : DefE K mg "square_root" ssquare_root ["tower", "vector"]) (D_root_without_last : DefE K mg "_root_without_last" s_root_without_last ["tower", "vector"]) (D_means : DefE K mg "_means" s_means ["tower", "vector"]) (D_square_part : DefE K mg "_square_part" s_square_part ["n"]) (Dadjoined : DefE K mg "adjoined" sadjoined ["tower", "square"]) (D_partner : DefE K mg "_partner" s_partner ["tower", "size", "vector"]) (Dnew_squares : DefE K mg "new_squares" snew_squares ["tower", "base"]) (Dwidened : DefE K mg "widened" swidened ["element", "size"]) (Dimage : DefE K mg "image" simage ["tower", "images", "vector"]) (Dimage_of_element : DefE K mg "image_of_element" simage_of_element ["tower", "images", "element"]) (Droot_in : DefE K mg "root_in" sroot_in ["tower", "square"]) (D_known_root : DefE K mg "_known_root" s_known_root ["tower", "square"]) (Djoined : DefE K mg "joined" sjoined ["tower", "other", "most"]) (Dprimitive : DefE K mg "primitive" sprimitive ["polynomial"]) (D_polynomial_square : DefE K mg "_polynomial_square" s_polynomial_square ["tower", "terms"]) (Dcharacteristic : DefE K mg "characteristic" scharacteristic ["tower", "vector", "base"]) (D_polynomial_root : DefE K mg "_polynomial_root" s_polynomial_root ["tower", "terms"]) (D_least_terms : DefE K mg "_least_terms" s_least_terms ["tower", "vector", "base"]) (D_degree : DefE K mg "_degree" s_degree ["tower", "element", "base"]) (Dleast_polynomial : DefE K mg "least_polynomial" sleast_polynomial ["tower", "element"]) (D_with_root_below : DefE K mg "_with_root_below" s_with_root_below ["tower", "element", "base", "degree"]) (Dleast_field : DefE K mg "least_field" sleast_field ["tower", "element"]) (D_rank : DefE K mg "_rank" s_rank ["tower"]) (D_in_one_tower : DefE K mg "_in_one_tower" s_in_one_tower ["one", "other", "most"]) (Dtogether : DefE K mg "together" stogether ["one", "other"]) (Dwhole_element : DefE K mg "whole_element" swhole_element ["n"]) (D_alike : DefE K mg "_alike" s_alike ["one", "other"]) (D_shortest : DefE K mg "_shortest" s_shortest ["element"]) (Dnumber_in : DefE K mg "number_in" snumber_in ["tower", "element"]) (D_both : DefE K mg "_both" s_both ["one", "other"]) (D_order : DefE K mg "_order" s_order ["one", "other"]) (DNumber___add__ : MetE K S.cls "__add__" "Number.__add__" sNumber___add__ ["self", "other"]) (DNumber___sub__ : MetE K S.cls "__sub__" "Number.__sub__" sNumber___sub__ ["self", "other"]) (DNumber___mul__ : MetE K S.cls "__mul__" "Number.__mul__" sNumber___mul__ ["self", "other"]) (DNumber___eq__ : MetE K S.cls "__eq__" "Number.__eq__" sNumber___eq__ ["self", "other"]) (DNumber_below : MetE K S.cls "below" "Number.below" sNumber_below ["self", "other"]) (DNumber_polynomial : MetE K S.cls "polynomial" "Number.polynomial" sNumber_polynomial ["self"]) (DNumber_degree : MetE K S.cls "degree" "Number.degree" sNumber_degree ["self"]) (DNumber_place : MetE K S.cls "place" "Number.place" sNumber_place ["self"]) (DField_number : MetE K (S.cl 1) "number" "Field.number" sField_number ["self", "element"]) (DField_plus : MetE K (S.cl 1) "plus" "Field.plus" sField_plus ["self", "one", "other"]) (DField_minus : MetE K (S.cl 1) "minus" "Field.minus" sField_minus ["self", "one", "other"]) (DField_product : MetE K (S.cl 1) "product" "Field.product" sField_product ["self", "one", "other"]) (DField_inverted : MetE K (S.cl 1) "inverted" "Field.inverted" sField_inverted ["self", "element"]) (DField_quotient : MetE K (S.cl 1) "quotient" "Field.quotient" sField_quotient ["self", "one", "other"]) (DField_negative : MetE K (S.cl 1) "negative" "Field.negative" sField_negative ["self", "element"]) (DField_sign : MetE K (S.cl 1) "sign" "Field.sign" sField_sign ["self", "element"]) (DField__found_root : MetE K (S.cl 1) "_found_root" "Field._found_root" sField__found_root ["self", "square"]) (DField_root : MetE K (S.cl 1) "root" "Field.root" sField_root ["self", "square"]) (D_fault : DefE K mg "_fault" s_fault ["words"]) (Dread_formula : DefE K mg "read_formula" sread_formula ["text"]) (Dwrite_formula : DefE K mg "write_formula" swrite_formula ["formula"]) (D_inside_first : DefE K mg "_inside_first" s_inside_first ["formula"]) (D_combined : DefE K mg "_combined" s_combined ["field", "word", "parts"]) (Dworked_out : DefE K mg "worked_out" sworked_out ["field", "formula"]) (Dvalue : DefE K mg "value" svalue ["formula"]) (D_corner_of_17 : DefE K mg "_corner_of_17" s_corner_of_17 []) (D_of_half_the_angle : DefE K mg "_of_half_the_angle" s_of_half_the_angle ["cosine"]) (Dcorner : DefE K mg "corner" scorner ["n"]) (D_law_gcd : DefE K mg "_law_gcd" s_law_gcd ["a", "b"]) (D_law_primitive : DefE K mg "_law_primitive" s_law_primitive ["row"]) (D_law_words : DefE K mg "_law_words" s_law_words ["formula"]) (D_law_depth : DefE K mg "_law_depth" s_law_depth ["formula"]) (D_law_is_small : DefE K mg "_law_is_small" s_law_is_small ["formula"]) (D_law_is_drawable : DefE K mg "_law_is_drawable" s_law_is_drawable ["n"]) (D_law_is_corner : DefE K mg "_law_is_corner" s_law_is_corner ["c", "n"]) (D_law_is_told : DefE K mg "_law_is_told" s_law_is_told ["c", "n"]) {giNumber : Addr} {gdNumber : FuncData} {dsNumber : List Value} (INumber : FunD K "__init__" "Number.__init__" (defArgs sNumber___init__) (defBody sNumber___init__) (defScope sNumber___init__) [.int 1] [] giNumber gdNumber) (BNumber : Binds K gdNumber ["self", "n", "d"] []) (BdNumber : Binds K gdNumber ["self", "n", "d"] dsNumber) (VNumber : Vals [V.int 1] dsNumber) (MNumber : Mk K (S.cl 0) giNumber) (HNumber : mg "Number" = some (.ref (S.cl 0))) {giField : Addr} {gdField : FuncData} (IField : Fun K "__init__" "Field.__init__" sField___init__ giField gdField) (BField : Binds K gdField ["self"] []) (MField : Mk K (S.cl 1) giField) (HField : mg "Field" = some (.ref (S.cl 1))) : FnOk P w K mg base CX0 72 f fd ["script"] (splaw K) := by
  have Cinteger_of : Cal P w K mg base 1 "integer_of" ["word"] (SpD S.cls fWord) := Dinteger_of.cal (ok_word Dinteger_of.F M)
  have C_law_state : Cal P w K mg base 1 "_law_state" ["script"] (sp_law_state K) := D_law_state.cal (ok_law_state D_law_state.F M)
  have C_law_take : Cal P w K mg base 1 "_law_take" ["state", "many"] (sp_law_take K) := D_law_take.cal (ok_law_take D_law_take.F M)
  have Cplus : Cal P w K mg base 1 "plus" ["one", "other"] (SpD S.cls fplus) := Dplus.cal (okplus Dplus.F M)
  have Cminus : Cal P w K mg base 1 "minus" ["one", "other"] (SpD S.cls fminus) := Dminus.cal (okminus Dminus.F M)
  have Ctimes : Cal P w K mg base 1 "times" ["vector", "factor"] (SpD S.cls ftimes) := Dtimes.cal (oktimes Dtimes.F M)
  have Cpadded : Cal P w K mg base 1 "padded" ["vector", "size"] (SpD S.cls fpadded) := Dpadded.cal (okpadded Dpadded.F M)
  have Clast_generator : Cal P w K mg base 1 "last_generator" ["tower", "vector"] (SpD S.cls flast_generator) := Dlast_generator.cal (oklast_generator Dlast_generator.F M)
  have Rmultiplied := rec_sccmultiplied (P := P) (w := w) (base := base) (S := S) (k := 1) M Dmultiplied Dby_generator (Cplus.lift (by decide)) (Clast_generator.lift (by decide)) (Cminus.lift (by decide)) (Ctimes.lift (by decide)) 12
  have Cmultiplied : Cal P w K mg base 13 "multiplied" ["tower", "one", "other"] (SpD S.cls fmultiplied) := Dmultiplied.cal Rmultiplied.1
  have Cby_generator : Cal P w K mg base 13 "by_generator" ["tower", "generator", "vector"] (SpD S.cls fby_generator) := Dby_generator.cal Rmultiplied.2
  have Cnorm : Cal P w K mg base 14 "norm" ["tower", "vector"] (SpD S.cls fnorm) := Dnorm.cal (oknorm Dnorm.F M (Cmultiplied.lift (by decide)) (Clast_generator.lift (by decide)) (Cby_generator.lift (by decide)) (Cminus.lift (by decide)))
  have Clowest : Cal P w K mg base 1 "lowest" ["vector", "scale"] (SpD S.cls flowest) := Dlowest.cal (oklowest Dlowest.F M)
  have Rinverse := rec_sccinverse (P := P) (w := w) (base := base) (S := S) (k := 14) M Dinverse (Clowest.lift (by decide)) (Cpadded.lift (by decide)) (Cnorm.lift (by decide)) (Cmultiplied.lift (by decide)) (Ctimes.lift (by decide)) 12
  have Cinverse : Cal P w K mg base 26 "inverse" ["tower", "vector"] (SpD S.cls finverse) := Dinverse.cal Rinverse
  have Celement_sum : Cal P w K mg base 2 "element_sum" ["one", "other"] (SpD S.cls felement_sum) := Delement_sum.cal (okelement_sum Delement_sum.F M (Ctimes.lift (by decide)) (Cplus.lift (by decide)) (Clowest.lift (by decide)))
  have Celement_difference : Cal P w K mg base 2 "element_difference" ["one", "other"] (SpD S.cls felement_difference) := Delement_difference.cal (okelement_difference Delement_difference.F M (Ctimes.lift (by decide)) (Cminus.lift (by decide)) (Clowest.lift (by decide)))
  have Celement_product : Cal P w K mg base 14 "element_product" ["tower", "one", "other"] (SpD S.cls felement_product) := Delement_product.cal (okelement_product Delement_product.F M (Cmultiplied.lift (by decide)) (Clowest.lift (by decide)))
  have Celement_quotient : Cal P w K mg base 27 "element_quotient" ["tower", "one", "other"] (SpD S.cls felement_quotient) := Delement_quotient.cal (okelement_quotient Delement_quotient.F M (Cinverse.lift (by decide)) (Cmultiplied.lift (by decide)) (Ctimes.lift (by decide)) (Clowest.lift (by decide)))
  have Cfrom_halves : Cal P w K mg base 2 "from_halves" ["low", "high"] (SpD S.cls ffrom_halves) := Dfrom_halves.cal (okfrom_halves Dfrom_halves.F M (Ctimes.lift (by decide)) (Clowest.lift (by decide)))
  have C_shares : Cal P w K mg base 1 "_shares" ["vector"] (SpD S.cls f_shares) := D_shares.cal (ok_shares D_shares.F M)
  have C_chosen : Cal P w K mg base 1 "_chosen" ["vector", "needed"] (SpD S.cls f_chosen) := D_chosen.cal (ok_chosen D_chosen.F M)
  have Ctrimmed : Cal P w K mg base 2 "trimmed" ["tower", "element"] (SpD S.cls ftrimmed) := Dtrimmed.cal (oktrimmed Dtrimmed.F M (C_shares.lift (by decide)) (C_chosen.lift (by decide)))
  have Cbound : Cal P w K mg base 1 "bound" ["vector", "basis"] (SpD S.cls fbound) := Dbound.cal (okbound Dbound.F M)
  have C_unit : Cal P w K mg base 1 "_unit" ["bits"] (SpD S.cls f_unit) := D_unit.cal (ok_unit D_unit.F M)
  have C_root : Cal P w K mg base 1 "_root" ["square", "bits"] (SpD S.cls f_root) := D_root.cal (ok_root D_root.F M)
  have C_scaled : Cal P w K mg base 1 "_scaled" ["one", "other", "bits"] (SpD S.cls f_scaled) := D_scaled.cal (ok_scaled D_scaled.F M)
  have Cbasis_of : Cal P w K mg base 2 "basis_of" ["tower", "bits"] (SpD S.cls fbasis_of) := Dbasis_of.cal (okbasis_of Dbasis_of.F M (C_unit.lift (by decide)) (Cbound.lift (by decide)) (C_root.lift (by decide)) (C_scaled.lift (by decide)))
  have Csign_of : Cal P w K mg base 3 "sign_of" ["tower", "vector"] (SpD S.cls fsign_of) := Dsign_of.cal (oksign_of Dsign_of.F M (Cbasis_of.lift (by decide)) (Cbound.lift (by decide)))
  have Cpositive : Cal P w K mg base 4 "positive" ["tower", "element"] (SpD S.cls fpositive) := Dpositive.cal (okpositive Dpositive.F M (Csign_of.lift (by decide)) (Ctimes.lift (by decide)))
  have Capart : Cal P w K mg base 3 "apart" ["one", "other"] (SpD S.cls fapart) := Dapart.cal (okapart Dapart.F M (Cbasis_of.lift (by decide)) (Cbound.lift (by decide)))
  have C_bases : Cal P w K mg base 2 "_bases" ["tower", "bits"] (SpD S.cls f_bases) := D_bases.cal (ok_bases D_bases.F M (C_unit.lift (by decide)) (Cbound.lift (by decide)) (C_root.lift (by decide)) (C_scaled.lift (by decide)))
  have C_count_below_first : Cal P w K mg base 1 "_count_below_first" ["found"] (SpD S.cls f_count_below_first) := D_count_below_first.cal (ok_count_below_first D_count_below_first.F M)
  have Cplace_of : Cal P w K mg base 3 "place_of" ["tower", "vector"] (SpD S.cls fplace_of) := Dplace_of.cal (okplace_of Dplace_of.F M (C_bases.lift (by decide)) (Cbound.lift (by decide)) (C_count_below_first.lift (by decide)))
  have C_integer_root : Cal P w K mg base 1 "_integer_root" ["n"] (SpD S.cls f_integer_root) := D_integer_root.cal (ok_integer_root D_integer_root.F M)
  have Rsquare_root := rec_sccsquare_root (P := P) (w := w) (base := base) (S := S) (k := 26) M Dsquare_root D_root_without_last D_means (C_integer_root.lift (by decide)) (Clowest.lift (by decide)) (Cinverse.lift (by decide)) (Cmultiplied.lift (by decide)) (Ctimes.lift (by decide)) (Cfrom_halves.lift (by decide)) (Cpadded.lift (by decide)) (Clast_generator.lift (by decide)) (Celement_product.lift (by decide)) (Cnorm.lift (by decide)) (Cplus.lift (by decide)) 12
  have Csquare_root : Cal P w K mg base 38 "square_root" ["tower", "vector"] (SpD S.cls fsquare_root) := Dsquare_root.cal Rsquare_root.1
  have C_root_without_last : Cal P w K mg base 38 "_root_without_last" ["tower", "vector"] (SpD S.cls f_root_without_last) := D_root_without_last.cal Rsquare_root.2.1
  have C_means : Cal P w K mg base 38 "_means" ["tower", "vector"] (SpD S.cls f_means) := D_means.cal Rsquare_root.2.2
  have C_square_part : Cal P w K mg base 1 "_square_part" ["n"] (SpD S.cls f_square_part) := D_square_part.cal (ok_square_part D_square_part.F M)
  have Cadjoined : Cal P w K mg base 2 "adjoined" ["tower", "square"] (SpD S.cls fadjoined) := Dadjoined.cal (okadjoined Dadjoined.F M (Ctimes.lift (by decide)) (C_square_part.lift (by decide)) (Cpadded.lift (by decide)) (Clowest.lift (by decide)))
  have R_partner := rec_scc_partner (P := P) (w := w) (base := base) (S := S) (k := 38) M D_partner (C_means.lift (by decide)) (Clast_generator.lift (by decide)) (Cmultiplied.lift (by decide)) 12
  have C_partner : Cal P w K mg base 50 "_partner" ["tower", "size", "vector"] (SpD S.cls f_partner) := D_partner.cal R_partner
  have Cnew_squares : Cal P w K mg base 51 "new_squares" ["tower", "base"] (SpD S.cls fnew_squares) := Dnew_squares.cal (oknew_squares Dnew_squares.F M (C_partner.lift (by decide)))
  have Cwidened : Cal P w K mg base 2 "widened" ["element", "size"] (SpD S.cls fwidened) := Dwidened.cal (okwidened Dwidened.F M (Cpadded.lift (by decide)))
  have Rimage := rec_sccimage (P := P) (w := w) (base := base) (S := S) (k := 14) M Dimage (Cpadded.lift (by decide)) (Cwidened.lift (by decide)) (Celement_product.lift (by decide)) (Celement_sum.lift (by decide)) 12
  have Cimage : Cal P w K mg base 26 "image" ["tower", "images", "vector"] (SpD S.cls fimage) := Dimage.cal Rimage
  have Cimage_of_element : Cal P w K mg base 27 "image_of_element" ["tower", "images", "element"] (SpD S.cls fimage_of_element) := Dimage_of_element.cal (okimage_of_element Dimage_of_element.F M (Cimage.lift (by decide)) (Clowest.lift (by decide)))
  have Croot_in : Cal P w K mg base 39 "root_in" ["tower", "square"] (SpD S.cls froot_in) := Droot_in.cal (okroot_in Droot_in.F M (Ctimes.lift (by decide)) (Csquare_root.lift (by decide)) (Clowest.lift (by decide)) (Cpositive.lift (by decide)))
  have C_known_root : Cal P w K mg base 40 "_known_root" ["tower", "square"] (SpD S.cls f_known_root) := D_known_root.cal (ok_known_root D_known_root.F M (Cpadded.lift (by decide)) (Croot_in.lift (by decide)))
  have Cjoined : Cal P w K mg base 41 "joined" ["tower", "other", "most"] (SpD S.cls fjoined) := Djoined.cal (okjoined Djoined.F M (Cimage.lift (by decide)) (C_known_root.lift (by decide)) (Cadjoined.lift (by decide)))
  have Cprimitive : Cal P w K mg base 1 "primitive" ["polynomial"] (SpD S.cls fprimitive) := Dprimitive.cal (okprimitive Dprimitive.F M)
  have C_polynomial_square : Cal P w K mg base 14 "_polynomial_square" ["tower", "terms"] (SpD S.cls f_polynomial_square) := D_polynomial_square.cal (ok_polynomial_square D_polynomial_square.F M (Cmultiplied.lift (by decide)) (Ctimes.lift (by decide)) (Cplus.lift (by decide)))
  have Ccharacteristic : Cal P w K mg base 15 "characteristic" ["tower", "vector", "base"] (SpD S.cls fcharacteristic) := Dcharacteristic.cal (okcharacteristic Dcharacteristic.F M (Cpadded.lift (by decide)) (Ctimes.lift (by decide)) (C_polynomial_square.lift (by decide)) (Cby_generator.lift (by decide)) (Cminus.lift (by decide)))
  have C_polynomial_root : Cal P w K mg base 15 "_polynomial_root" ["tower", "terms"] (SpD S.cls f_polynomial_root) := D_polynomial_root.cal (ok_polynomial_root D_polynomial_root.F M (Celement_product.lift (by decide)) (Celement_difference.lift (by decide)) (Clowest.lift (by decide)))
  have C_least_terms : Cal P w K mg base 16 "_least_terms" ["tower", "vector", "base"] (SpD S.cls f_least_terms) := D_least_terms.cal (ok_least_terms D_least_terms.F M (Ccharacteristic.lift (by decide)) (C_polynomial_root.lift (by decide)))
  have C_degree : Cal P w K mg base 17 "_degree" ["tower", "element", "base"] (SpD S.cls f_degree) := D_degree.cal (ok_degree D_degree.F M (C_least_terms.lift (by decide)))
  have Cleast_polynomial : Cal P w K mg base 17 "least_polynomial" ["tower", "element"] (SpD S.cls fleast_polynomial) := Dleast_polynomial.cal (okleast_polynomial Dleast_polynomial.F M (C_least_terms.lift (by decide)) (Cprimitive.lift (by decide)))
  have C_with_root_below : Cal P w K mg base 52 "_with_root_below" ["tower", "element", "base", "degree"] (SpD S.cls f_with_root_below) := D_with_root_below.cal (ok_with_root_below D_with_root_below.F M (Cnew_squares.lift (by decide)) (Cpadded.lift (by decide)) (Cmultiplied.lift (by decide)) (Cadjoined.lift (by decide)) (Cjoined.lift (by decide)) (Cimage_of_element.lift (by decide)) (C_degree.lift (by decide)))
  have Cleast_field : Cal P w K mg base 53 "least_field" ["tower", "element"] (SpD S.cls fleast_field) := Dleast_field.cal (okleast_field Dleast_field.F M (C_degree.lift (by decide)) (C_with_root_below.lift (by decide)))
  have C_rank : Cal P w K mg base 1 "_rank" ["tower"] (SpD S.cls f_rank) := D_rank.cal (ok_rank D_rank.F M)
  have R_in_one_tower := rec_scc_in_one_tower (P := P) (w := w) (base := base) (S := S) (k := 41) M D_in_one_tower (C_rank.lift (by decide)) (Cjoined.lift (by decide)) (Cimage_of_element.lift (by decide)) (Cwidened.lift (by decide)) 12
  have C_in_one_tower : Cal P w K mg base 53 "_in_one_tower" ["one", "other", "most"] (SpD S.cls f_in_one_tower) := D_in_one_tower.cal R_in_one_tower
  have Ctogether : Cal P w K mg base 54 "together" ["one", "other"] (SpD S.cls ftogether) := Dtogether.cal (oktogether Dtogether.F M (C_in_one_tower.lift (by decide)) (Cleast_field.lift (by decide)))
  have Cwhole_element : Cal P w K mg base 1 "whole_element" ["n"] (SpD S.cls fwhole_element) := Dwhole_element.cal (okwhole_element Dwhole_element.F M)
  have C_alike : Cal P w K mg base 3 "_alike" ["one", "other"] (SpD S.cls f_alike) := D_alike.cal (ok_alike D_alike.F M (Cwidened.lift (by decide)))
  have C_shortest : Cal P w K mg base 1 "_shortest" ["element"] (SpD S.cls f_shortest) := D_shortest.cal (ok_shortest D_shortest.F M)
  have ONumber : FnOk P w K mg base CX0 2 giNumber gdNumber ["self", "n", "d"] (SpS S fNumber___init__) := okNumber___init__ INumber M Z TNumber TField (Clowest.lift (by decide))
  have CmkNumber : MkD P w K mg base 3 S 0 "Number" ["self", "n", "d"] fNumber___init__ 1 := ⟨⟨2, by decide, giNumber, gdNumber, ONumber, BNumber, MNumber, HNumber⟩, dsNumber, BdNumber, VNumber⟩
  have Cnumber_in : Cal P w K mg base 4 "number_in" ["tower", "element"] (SpD S.cls fnumber_in) := Dnumber_in.cal (oknumber_in Dnumber_in.F M Z TNumber TField (Ctrimmed.lift (by decide)) (CmkNumber.lift (by decide)))
  have C_both : Cal P w K mg base 55 "_both" ["one", "other"] (SpD S.cls f_both) := D_both.cal (ok_both D_both.F M Z TNumber TField (Ctogether.lift (by decide)))
  have C_order : Cal P w K mg base 56 "_order" ["one", "other"] (SpD S.cls f_order) := D_order.cal (ok_order D_order.F M Z TNumber TField (Capart.lift (by decide)) (C_both.lift (by decide)) (Celement_difference.lift (by decide)) (Csign_of.lift (by decide)))
  have CNumber___add__ : MCal P w K mg base 56 S.cls "__add__" ["self", "other"] (SpD S.cls fNumber___add__) := DNumber___add__.cal (okNumber___add__ DNumber___add__.F M Z TNumber TField (C_both.lift (by decide)) (Celement_sum.lift (by decide)) (Cnumber_in.lift (by decide)))
  have CNumber___sub__ : MCal P w K mg base 56 S.cls "__sub__" ["self", "other"] (SpD S.cls fNumber___sub__) := DNumber___sub__.cal (okNumber___sub__ DNumber___sub__.F M Z TNumber TField (C_both.lift (by decide)) (Celement_difference.lift (by decide)) (Cnumber_in.lift (by decide)))
  have CNumber___mul__ : MCal P w K mg base 56 S.cls "__mul__" ["self", "other"] (SpD S.cls fNumber___mul__) := DNumber___mul__.cal (okNumber___mul__ DNumber___mul__.F M Z TNumber TField (C_both.lift (by decide)) (Celement_product.lift (by decide)) (Cnumber_in.lift (by decide)))
  have CNumber___eq__ : MCal P w K mg base 57 S.cls "__eq__" ["self", "other"] (SpD S.cls fNumber___eq__) := DNumber___eq__.cal (okNumber___eq__ DNumber___eq__.F M Z TNumber TField (C_order.lift (by decide)))
  have CNumber_below : MCal P w K mg base 57 S.cls "below" ["self", "other"] (SpD S.cls fNumber_below) := DNumber_below.cal (okNumber_below DNumber_below.F M Z TNumber TField (C_order.lift (by decide)))
  have CNumber_polynomial : MCal P w K mg base 18 S.cls "polynomial" ["self"] (SpD S.cls fNumber_polynomial) := DNumber_polynomial.cal (okNumber_polynomial DNumber_polynomial.F M Z TNumber TField (Cleast_polynomial.lift (by decide)))
  have CNumber_degree : MCal P w K mg base 19 S.cls "degree" ["self"] (SpD S.cls fNumber_degree) := DNumber_degree.cal (okNumber_degree DNumber_degree.F M Z TNumber TField (CNumber_polynomial.lift (by decide)))
  have CNumber_place : MCal P w K mg base 54 S.cls "place" ["self"] (SpD S.cls fNumber_place) := DNumber_place.cal (okNumber_place DNumber_place.F M Z TNumber TField (Cleast_field.lift (by decide)) (Cplace_of.lift (by decide)))
  have OField : FnOk P w K mg base CX0 1 giField gdField ["self"] (SpS S fField___init__) := okField___init__ IField M Z TNumber TField
  have CmkField : MkC P w K mg base 2 S 1 "Field" ["self"] fField___init__ := ⟨1, by decide, giField, gdField, OField, BField, MField, HField⟩
  have CField_number : MCal P w K mg base 5 (S.cl 1) "number" ["self", "element"] (SpS S fField_number) := DField_number.cal (okField_number DField_number.F M Z TNumber TField (Cnumber_in.lift (by decide)))
  have CField_plus : MCal P w K mg base 4 (S.cl 1) "plus" ["self", "one", "other"] (SpS S fField_plus) := DField_plus.cal (okField_plus DField_plus.F M Z TNumber TField (C_alike.lift (by decide)) (Celement_sum.lift (by decide)) (C_shortest.lift (by decide)))
  have CField_minus : MCal P w K mg base 4 (S.cl 1) "minus" ["self", "one", "other"] (SpS S fField_minus) := DField_minus.cal (okField_minus DField_minus.F M Z TNumber TField (C_alike.lift (by decide)) (Celement_difference.lift (by decide)) (C_shortest.lift (by decide)))
  have CField_product : MCal P w K mg base 15 (S.cl 1) "product" ["self", "one", "other"] (SpS S fField_product) := DField_product.cal (okField_product DField_product.F M Z TNumber TField (C_alike.lift (by decide)) (C_shortest.lift (by decide)) (Celement_product.lift (by decide)))
  have CField_inverted : MCal P w K mg base 27 (S.cl 1) "inverted" ["self", "element"] (SpS S fField_inverted) := DField_inverted.cal (okField_inverted DField_inverted.F M Z TNumber TField (Cinverse.lift (by decide)) (Ctimes.lift (by decide)) (Clowest.lift (by decide)) (C_shortest.lift (by decide)))
  have CField_quotient : MCal P w K mg base 28 (S.cl 1) "quotient" ["self", "one", "other"] (SpS S fField_quotient) := DField_quotient.cal (okField_quotient DField_quotient.F M Z TNumber TField (CField_product.lift (by decide)) (CField_inverted.lift (by decide)))
  have CField_negative : MCal P w K mg base 2 (S.cl 1) "negative" ["self", "element"] (SpS S fField_negative) := DField_negative.cal (okField_negative DField_negative.F M Z TNumber TField (Ctimes.lift (by decide)))
  have CField_sign : MCal P w K mg base 4 (S.cl 1) "sign" ["self", "element"] (SpS S fField_sign) := DField_sign.cal (okField_sign DField_sign.F M Z TNumber TField (Csign_of.lift (by decide)))
  have CField__found_root : MCal P w K mg base 40 (S.cl 1) "_found_root" ["self", "square"] (SpS S fField__found_root) := DField__found_root.cal (okField__found_root DField__found_root.F M Z TNumber TField (Cwidened.lift (by decide)) (Croot_in.lift (by decide)) (Cadjoined.lift (by decide)) (C_shortest.lift (by decide)))
  have CField_root : MCal P w K mg base 41 (S.cl 1) "root" ["self", "square"] (SpS S fField_root) := DField_root.cal (okField_root DField_root.F M Z TNumber TField (CField__found_root.lift (by decide)))
  have C_fault : Cal P w K mg base 2 "_fault" ["words"] (SpD S.cls f_fault) := D_fault.cal (ok_fault D_fault.F M Z TNumber TField DPARTS (Cinteger_of.lift (by decide)))
  have Cread_formula : Cal P w K mg base 3 "read_formula" ["text"] (SpD S.cls fread_formula) := Dread_formula.cal (okread_formula Dread_formula.F M Z TNumber TField DPARTS (C_fault.lift (by decide)))
  have Cwrite_formula : Cal P w K mg base 1 "write_formula" ["formula"] (SpD S.cls fwrite_formula) := Dwrite_formula.cal (okwrite_formula Dwrite_formula.F M Z TNumber TField)
  have C_inside_first : Cal P w K mg base 1 "_inside_first" ["formula"] (SpD S.cls f_inside_first) := D_inside_first.cal (ok_inside_first D_inside_first.F M Z TNumber TField)
  have C_combined : Cal P w K mg base 42 "_combined" ["field", "word", "parts"] (SpS S f_combined) := D_combined.cal (ok_combined D_combined.F M Z TNumber TField (CField_plus.lift (by decide)) (CField_minus.lift (by decide)) (CField_product.lift (by decide)) (CField_negative.lift (by decide)) (CField_sign.lift (by decide)) (CField_quotient.lift (by decide)) (CField_root.lift (by decide)))
  have Cworked_out : Cal P w K mg base 43 "worked_out" ["field", "formula"] (SpS S fworked_out) := Dworked_out.cal (okworked_out Dworked_out.F M Z TNumber TField (C_inside_first.lift (by decide)) (Cwhole_element.lift (by decide)) (C_combined.lift (by decide)))
  have Cvalue : Cal P w K mg base 44 "value" ["formula"] (SpD S.cls fvalue) := Dvalue.cal (okvalue Dvalue.F M Z TNumber TField (CmkField.lift (by decide)) (Cworked_out.lift (by decide)) (CField_number.lift (by decide)))
  have C_corner_of_17 : Cal P w K mg base 1 "_corner_of_17" [] (SpD S.cls f_corner_of_17) := D_corner_of_17.cal (ok_corner_of_17 D_corner_of_17.F M Z TNumber TField)
  have C_of_half_the_angle : Cal P w K mg base 1 "_of_half_the_angle" ["cosine"] (SpD S.cls f_of_half_the_angle) := D_of_half_the_angle.cal (ok_of_half_the_angle D_of_half_the_angle.F M Z TNumber TField)
  have Ccorner : Cal P w K mg base 4 "corner" ["n"] (SpD S.cls fcorner) := Dcorner.cal (okcorner Dcorner.F M Z TNumber TField DCORNERS (C_corner_of_17.lift (by decide)) (Cread_formula.lift (by decide)) (C_of_half_the_angle.lift (by decide)))
  have C_law_gcd : Cal P w K mg base 1 "_law_gcd" ["a", "b"] (SpD S.cls f_law_gcd) := D_law_gcd.cal (ok_law_gcd D_law_gcd.F M Z TNumber TField)
  have C_law_primitive : Cal P w K mg base 2 "_law_primitive" ["row"] (SpD S.cls f_law_primitive) := D_law_primitive.cal (ok_law_primitive D_law_primitive.F M Z TNumber TField (C_law_gcd.lift (by decide)))
  have R_law_words := rec_scc_law_words (P := P) (w := w) (base := base) (S := S) (k := 0) M Z TNumber TField D_law_words 70
  have C_law_words : Cal P w K mg base 70 "_law_words" ["formula"] (SpD S.cls f_law_words) := D_law_words.cal R_law_words
  have R_law_depth := rec_scc_law_depth (P := P) (w := w) (base := base) (S := S) (k := 0) M Z TNumber TField D_law_depth 70
  have C_law_depth : Cal P w K mg base 70 "_law_depth" ["formula"] (SpD S.cls f_law_depth) := D_law_depth.cal R_law_depth
  have C_law_is_small : Cal P w K mg base 71 "_law_is_small" ["formula"] (SpD S.cls f_law_is_small) := D_law_is_small.cal (ok_law_is_small D_law_is_small.F M Z TNumber TField (C_law_words.lift (by decide)) (C_law_depth.lift (by decide)))
  have C_law_is_drawable : Cal P w K mg base 1 "_law_is_drawable" ["n"] (SpD S.cls f_law_is_drawable) := D_law_is_drawable.cal (ok_law_is_drawable D_law_is_drawable.F M Z TNumber TField)
  have C_law_is_corner : Cal P w K mg base 58 "_law_is_corner" ["c", "n"] (SpD S.cls f_law_is_corner) := D_law_is_corner.cal (ok_law_is_corner D_law_is_corner.F M Z TNumber TField (CNumber_below.lift (by decide)) (CmkNumber.lift (by decide)) (CNumber___sub__.lift (by decide)) (CNumber___mul__.lift (by decide)) (CNumber___eq__.lift (by decide)))
  have C_law_is_told : Cal P w K mg base 58 "_law_is_told" ["c", "n"] (SpD S.cls f_law_is_told) := D_law_is_told.cal (ok_law_is_told D_law_is_told.F M Z TNumber TField (C_law_gcd.lift (by decide)) (CNumber_polynomial.lift (by decide)) (C_law_primitive.lift (by decide)) (CNumber_place.lift (by decide)) (CNumber_degree.lift (by decide)) (CmkNumber.lift (by decide)) (CNumber___add__.lift (by decide)) (CNumber___mul__.lift (by decide)) (CNumber___eq__.lift (by decide)))
  exact oklaw (k := 71) hall F M (C_law_state.lift (by decide)) (C_law_take.lift (by decide)) fun cdv A outer s H E hr => suitelaw M Z TNumber TField (Ccorner.lift (by decide)) (C_law_is_drawable.lift (by decide)) (C_law_is_small.lift (by decide)) (Cvalue.lift (by decide)) (C_law_is_told.lift (by decide)) (C_law_is_corner.lift (by decide)) (Cwrite_formula.lift (by decide)) (Cread_formula.lift (by decide)) cdv A outer s H E hr
end
end K31

set_option maxRecDepth 1000000
set_option maxHeartbeats 0
namespace K31
open DN PySem
theorem ev3 : okN 3 = true := by decide +kernel
theorem ev4 : okN 4 = true := by decide +kernel
theorem ev5 : okN 5 = true := by decide +kernel
theorem ev6 : okN 6 = true := by decide +kernel
theorem ev7 : okN 7 = true := by decide +kernel
theorem ev8 : okN 8 = true := by decide +kernel
theorem ev9 : okN 9 = true := by decide +kernel
theorem ev10 : okN 10 = true := by decide +kernel
theorem ev11 : okN 11 = true := by decide +kernel
theorem ev12 : okN 12 = true := by decide +kernel
theorem ev13 : okN 13 = true := by decide +kernel
theorem ev14 : okN 14 = true := by decide +kernel
theorem ev15 : okN 15 = true := by decide +kernel
theorem ev16 : okN 16 = true := by decide +kernel
theorem ev17 : okN 17 = true := by decide +kernel
theorem ev18 : okN 18 = true := by decide +kernel
theorem ev19 : okN 19 = true := by decide +kernel
theorem ev20 : okN 20 = true := by decide +kernel
theorem ev21 : okN 21 = true := by decide +kernel
theorem ev22 : okN 22 = true := by decide +kernel
theorem ev23 : okN 23 = true := by decide +kernel
theorem ev24 : okN 24 = true := by decide +kernel
theorem ev25 : okN 25 = true := by decide +kernel
theorem ev26 : okN 26 = true := by decide +kernel
theorem ev27 : okN 27 = true := by decide +kernel
theorem ev28 : okN 28 = true := by decide +kernel
theorem ev29 : okN 29 = true := by decide +kernel
theorem ev30 : okN 30 = true := by decide +kernel
theorem ev31 : okN 31 = true := by decide +kernel
theorem ev32 : okN 32 = true := by decide +kernel
theorem ev33 : okN 33 = true := by decide +kernel
theorem ev34 : okN 34 = true := by decide +kernel
theorem ev35 : okN 35 = true := by decide +kernel
theorem ev36 : okN 36 = true := by decide +kernel
theorem ev37 : okN 37 = true := by decide +kernel
theorem ev38 : okN 38 = true := by decide +kernel
theorem ev39 : okN 39 = true := by decide +kernel
theorem ev40 : okN 40 = true := by decide +kernel
theorem ev41 : okN 41 = true := by decide +kernel
theorem ev42 : okN 42 = true := by decide +kernel
theorem ev43 : okN 43 = true := by decide +kernel
theorem ev44 : okN 44 = true := by decide +kernel
theorem ev45 : okN 45 = true := by decide +kernel
theorem ev46 : okN 46 = true := by decide +kernel
theorem ev47 : okN 47 = true := by decide +kernel
theorem ev48 : okN 48 = true := by decide +kernel
theorem ev49 : okN 49 = true := by decide +kernel
theorem ev50 : okN 50 = true := by decide +kernel
theorem hall : ∀ d : Int, 0 ≤ d → d < 48 → okN (3 + d) = true := fun d h0 h1 => by
  obtain ⟨n, rfl⟩ : ∃ n : Nat, d = n := ⟨d.toNat, by omega⟩
  have hn : n < 48 := by omega
  match n, hn with
  | 0, _ => exact (congrArg okN (show (3 : Int) + ((0 : Nat) : Int) = 3 from rfl)).trans ev3
  | 1, _ => exact (congrArg okN (show (3 : Int) + ((1 : Nat) : Int) = 4 from rfl)).trans ev4
  | 2, _ => exact (congrArg okN (show (3 : Int) + ((2 : Nat) : Int) = 5 from rfl)).trans ev5
  | 3, _ => exact (congrArg okN (show (3 : Int) + ((3 : Nat) : Int) = 6 from rfl)).trans ev6
  | 4, _ => exact (congrArg okN (show (3 : Int) + ((4 : Nat) : Int) = 7 from rfl)).trans ev7
  | 5, _ => exact (congrArg okN (show (3 : Int) + ((5 : Nat) : Int) = 8 from rfl)).trans ev8
  | 6, _ => exact (congrArg okN (show (3 : Int) + ((6 : Nat) : Int) = 9 from rfl)).trans ev9
  | 7, _ => exact (congrArg okN (show (3 : Int) + ((7 : Nat) : Int) = 10 from rfl)).trans ev10
  | 8, _ => exact (congrArg okN (show (3 : Int) + ((8 : Nat) : Int) = 11 from rfl)).trans ev11
  | 9, _ => exact (congrArg okN (show (3 : Int) + ((9 : Nat) : Int) = 12 from rfl)).trans ev12
  | 10, _ => exact (congrArg okN (show (3 : Int) + ((10 : Nat) : Int) = 13 from rfl)).trans ev13
  | 11, _ => exact (congrArg okN (show (3 : Int) + ((11 : Nat) : Int) = 14 from rfl)).trans ev14
  | 12, _ => exact (congrArg okN (show (3 : Int) + ((12 : Nat) : Int) = 15 from rfl)).trans ev15
  | 13, _ => exact (congrArg okN (show (3 : Int) + ((13 : Nat) : Int) = 16 from rfl)).trans ev16
  | 14, _ => exact (congrArg okN (show (3 : Int) + ((14 : Nat) : Int) = 17 from rfl)).trans ev17
  | 15, _ => exact (congrArg okN (show (3 : Int) + ((15 : Nat) : Int) = 18 from rfl)).trans ev18
  | 16, _ => exact (congrArg okN (show (3 : Int) + ((16 : Nat) : Int) = 19 from rfl)).trans ev19
  | 17, _ => exact (congrArg okN (show (3 : Int) + ((17 : Nat) : Int) = 20 from rfl)).trans ev20
  | 18, _ => exact (congrArg okN (show (3 : Int) + ((18 : Nat) : Int) = 21 from rfl)).trans ev21
  | 19, _ => exact (congrArg okN (show (3 : Int) + ((19 : Nat) : Int) = 22 from rfl)).trans ev22
  | 20, _ => exact (congrArg okN (show (3 : Int) + ((20 : Nat) : Int) = 23 from rfl)).trans ev23
  | 21, _ => exact (congrArg okN (show (3 : Int) + ((21 : Nat) : Int) = 24 from rfl)).trans ev24
  | 22, _ => exact (congrArg okN (show (3 : Int) + ((22 : Nat) : Int) = 25 from rfl)).trans ev25
  | 23, _ => exact (congrArg okN (show (3 : Int) + ((23 : Nat) : Int) = 26 from rfl)).trans ev26
  | 24, _ => exact (congrArg okN (show (3 : Int) + ((24 : Nat) : Int) = 27 from rfl)).trans ev27
  | 25, _ => exact (congrArg okN (show (3 : Int) + ((25 : Nat) : Int) = 28 from rfl)).trans ev28
  | 26, _ => exact (congrArg okN (show (3 : Int) + ((26 : Nat) : Int) = 29 from rfl)).trans ev29
  | 27, _ => exact (congrArg okN (show (3 : Int) + ((27 : Nat) : Int) = 30 from rfl)).trans ev30
  | 28, _ => exact (congrArg okN (show (3 : Int) + ((28 : Nat) : Int) = 31 from rfl)).trans ev31
  | 29, _ => exact (congrArg okN (show (3 : Int) + ((29 : Nat) : Int) = 32 from rfl)).trans ev32
  | 30, _ => exact (congrArg okN (show (3 : Int) + ((30 : Nat) : Int) = 33 from rfl)).trans ev33
  | 31, _ => exact (congrArg okN (show (3 : Int) + ((31 : Nat) : Int) = 34 from rfl)).trans ev34
  | 32, _ => exact (congrArg okN (show (3 : Int) + ((32 : Nat) : Int) = 35 from rfl)).trans ev35
  | 33, _ => exact (congrArg okN (show (3 : Int) + ((33 : Nat) : Int) = 36 from rfl)).trans ev36
  | 34, _ => exact (congrArg okN (show (3 : Int) + ((34 : Nat) : Int) = 37 from rfl)).trans ev37
  | 35, _ => exact (congrArg okN (show (3 : Int) + ((35 : Nat) : Int) = 38 from rfl)).trans ev38
  | 36, _ => exact (congrArg okN (show (3 : Int) + ((36 : Nat) : Int) = 39 from rfl)).trans ev39
  | 37, _ => exact (congrArg okN (show (3 : Int) + ((37 : Nat) : Int) = 40 from rfl)).trans ev40
  | 38, _ => exact (congrArg okN (show (3 : Int) + ((38 : Nat) : Int) = 41 from rfl)).trans ev41
  | 39, _ => exact (congrArg okN (show (3 : Int) + ((39 : Nat) : Int) = 42 from rfl)).trans ev42
  | 40, _ => exact (congrArg okN (show (3 : Int) + ((40 : Nat) : Int) = 43 from rfl)).trans ev43
  | 41, _ => exact (congrArg okN (show (3 : Int) + ((41 : Nat) : Int) = 44 from rfl)).trans ev44
  | 42, _ => exact (congrArg okN (show (3 : Int) + ((42 : Nat) : Int) = 45 from rfl)).trans ev45
  | 43, _ => exact (congrArg okN (show (3 : Int) + ((43 : Nat) : Int) = 46 from rfl)).trans ev46
  | 44, _ => exact (congrArg okN (show (3 : Int) + ((44 : Nat) : Int) = 47 from rfl)).trans ev47
  | 45, _ => exact (congrArg okN (show (3 : Int) + ((45 : Nat) : Int) = 48 from rfl)).trans ev48
  | 46, _ => exact (congrArg okN (show (3 : Int) + ((46 : Nat) : Int) = 49 from rfl)).trans ev49
  | 47, _ => exact (congrArg okN (show (3 : Int) + ((47 : Nat) : Int) = 50 from rfl)).trans ev50
  | m + 48, h => omega
end K31

set_option maxHeartbeats 0
namespace K31
open PySem PySem.Spec PyProof.Rows L2 KG DN
theorem factsH (hall : ∀ d : Int, 0 ≤ d → d < 48 → okN (3 + d) = true) {P : Program} {w : World} {K : PySem.W.Frag} {h : Heap} {mg : Str → Option Value} {f : Addr} (X : K.In h) (G : h.Ns mainGlobals mg) (hfa : mg ("law" : Str) = some (.ref f)) (c : SaysH faH fnH exH tsH w K) :
    ∃ fd : FuncData, (∀ (s : Shared) (v : Value), BindsTo s fd ⟨[v], []⟩ [("script", v)]) ∧ ∀ base : Heap, K.In base → base.Ns mainGlobals mg → FnOk P w K mg base CX0 72 f fd ["script"] (splaw K) := by
  obtain ⟨fdlaw, Glaw⟩ := c.d.def_ 0 (d := ddlaw) rfl
  have e := hfa.symm.trans (He.glo_ok X G (c.d.fact 0 (f := .glo "law") rfl))
  cases e
  have Flaw : Fun K "law" "law" slaw _ fdlaw := fun_ofD (F := fun _ => True) Glaw
  let S : CS := ⟨He.ga K "Number", fun t => match t with | 1 => He.ga K "Field" | _ => He.ga K "Number", P, w, K⟩
  obtain ⟨Dinteger_of⟩ := def_mkH (st := sinteger_of) (ps := ["word"]) (c.d.def_ 1 (d := ddinteger_of) rfl) (He.glo_ok X G (c.d.fact 1 (f := .glo "integer_of") rfl)) fun _ _ _ _ _ _ us hl => match us, hl with | [_], _ => rfl
  obtain ⟨D_law_state⟩ := def_mkH (st := s_law_state) (ps := ["script"]) (c.d.def_ 2 (d := dd_law_state) rfl) (He.glo_ok X G (c.d.fact 2 (f := .glo "_law_state") rfl)) fun _ _ _ _ _ _ us hl => match us, hl with | [_], _ => rfl
  obtain ⟨D_law_take⟩ := def_mkH (st := s_law_take) (ps := ["state", "many"]) (c.d.def_ 3 (d := dd_law_take) rfl) (He.glo_ok X G (c.d.fact 3 (f := .glo "_law_take") rfl)) fun _ _ _ _ _ _ us hl => match us, hl with | [_, _], _ => rfl
  obtain ⟨Dplus⟩ := def_mkH (st := splus) (ps := ["one", "other"]) (c.d.def_ 4 (d := ddplus) rfl) (He.glo_ok X G (c.d.fact 4 (f := .glo "plus") rfl)) fun _ _ _ _ _ _ us hl => match us, hl with | [_, _], _ => rfl
  obtain ⟨Dminus⟩ := def_mkH (st := sminus) (ps := ["one", "other"]) (c.d.def_ 5 (d := ddminus) rfl) (He.glo_ok X G (c.d.fact 5 (f := .glo "minus") rfl)) fun _ _ _ _ _ _ us hl => match us, hl with | [_, _], _ => rfl
  obtain ⟨Dtimes⟩ := def_mkH (st := stimes) (ps := ["vector", "factor"]) (c.d.def_ 6 (d := ddtimes) rfl) (He.glo_ok X G (c.d.fact 6 (f := .glo "times") rfl)) fun _ _ _ _ _ _ us hl => match us, hl with | [_, _], _ => rfl
  obtain ⟨Dpadded⟩ := def_mkH (st := spadded) (ps := ["vector", "size"]) (c.d.def_ 7 (d := ddpadded) rfl) (He.glo_ok X G (c.d.fact 7 (f := .glo "padded") rfl)) fun _ _ _ _ _ _ us hl => match us, hl with | [_, _], _ => rfl
  obtain ⟨Dlast_generator⟩ := def_mkH (st := slast_generator) (ps := ["tower", "vector"]) (c.d.def_ 8 (d := ddlast_generator) rfl) (He.glo_ok X G (c.d.fact 8 (f := .glo "last_generator") rfl)) fun _ _ _ _ _ _ us hl => match us, hl with | [_, _], _ => rfl
  obtain ⟨Dmultiplied⟩ := def_mkH (st := smultiplied) (ps := ["tower", "one", "other"]) (c.d.def_ 9 (d := ddmultiplied) rfl) (He.glo_ok X G (c.d.fact 9 (f := .glo "multiplied") rfl)) fun _ _ _ _ _ _ us hl => match us, hl with | [_, _, _], _ => rfl
  obtain ⟨Dby_generator⟩ := def_mkH (st := sby_generator) (ps := ["tower", "generator", "vector"]) (c.d.def_ 10 (d := ddby_generator) rfl) (He.glo_ok X G (c.d.fact 10 (f := .glo "by_generator") rfl)) fun _ _ _ _ _ _ us hl => match us, hl with | [_, _, _], _ => rfl
  obtain ⟨Dnorm⟩ := def_mkH (st := snorm) (ps := ["tower", "vector"]) (c.d.def_ 11 (d := ddnorm) rfl) (He.glo_ok X G (c.d.fact 11 (f := .glo "norm") rfl)) fun _ _ _ _ _ _ us hl => match us, hl with | [_, _], _ => rfl
  obtain ⟨Dlowest⟩ := def_mkH (st := slowest) (ps := ["vector", "scale"]) (c.d.def_ 12 (d := ddlowest) rfl) (He.glo_ok X G (c.d.fact 12 (f := .glo "lowest") rfl)) fun _ _ _ _ _ _ us hl => match us, hl with | [_, _], _ => rfl
  obtain ⟨Dinverse⟩ := def_mkH (st := sinverse) (ps := ["tower", "vector"]) (c.d.def_ 13 (d := ddinverse) rfl) (He.glo_ok X G (c.d.fact 13 (f := .glo "inverse") rfl)) fun _ _ _ _ _ _ us hl => match us, hl with | [_, _], _ => rfl
  obtain ⟨Delement_sum⟩ := def_mkH (st := selement_sum) (ps := ["one", "other"]) (c.d.def_ 14 (d := ddelement_sum) rfl) (He.glo_ok X G (c.d.fact 14 (f := .glo "element_sum") rfl)) fun _ _ _ _ _ _ us hl => match us, hl with | [_, _], _ => rfl
  obtain ⟨Delement_difference⟩ := def_mkH (st := selement_difference) (ps := ["one", "other"]) (c.d.def_ 15 (d := ddelement_difference) rfl) (He.glo_ok X G (c.d.fact 15 (f := .glo "element_difference") rfl)) fun _ _ _ _ _ _ us hl => match us, hl with | [_, _], _ => rfl
  obtain ⟨Delement_product⟩ := def_mkH (st := selement_product) (ps := ["tower", "one", "other"]) (c.d.def_ 16 (d := ddelement_product) rfl) (He.glo_ok X G (c.d.fact 16 (f := .glo "element_product") rfl)) fun _ _ _ _ _ _ us hl => match us, hl with | [_, _, _], _ => rfl
  obtain ⟨Delement_quotient⟩ := def_mkH (st := selement_quotient) (ps := ["tower", "one", "other"]) (c.d.def_ 17 (d := ddelement_quotient) rfl) (He.glo_ok X G (c.d.fact 17 (f := .glo "element_quotient") rfl)) fun _ _ _ _ _ _ us hl => match us, hl with | [_, _, _], _ => rfl
  obtain ⟨Dfrom_halves⟩ := def_mkH (st := sfrom_halves) (ps := ["low", "high"]) (c.d.def_ 18 (d := ddfrom_halves) rfl) (He.glo_ok X G (c.d.fact 18 (f := .glo "from_halves") rfl)) fun _ _ _ _ _ _ us hl => match us, hl with | [_, _], _ => rfl
  obtain ⟨D_shares⟩ := def_mkH (st := s_shares) (ps := ["vector"]) (c.d.def_ 19 (d := dd_shares) rfl) (He.glo_ok X G (c.d.fact 19 (f := .glo "_shares") rfl)) fun _ _ _ _ _ _ us hl => match us, hl with | [_], _ => rfl
  obtain ⟨D_chosen⟩ := def_mkH (st := s_chosen) (ps := ["vector", "needed"]) (c.d.def_ 20 (d := dd_chosen) rfl) (He.glo_ok X G (c.d.fact 20 (f := .glo "_chosen") rfl)) fun _ _ _ _ _ _ us hl => match us, hl with | [_, _], _ => rfl
  obtain ⟨Dtrimmed⟩ := def_mkH (st := strimmed) (ps := ["tower", "element"]) (c.d.def_ 21 (d := ddtrimmed) rfl) (He.glo_ok X G (c.d.fact 21 (f := .glo "trimmed") rfl)) fun _ _ _ _ _ _ us hl => match us, hl with | [_, _], _ => rfl
  obtain ⟨Dbound⟩ := def_mkH (st := sbound) (ps := ["vector", "basis"]) (c.d.def_ 22 (d := ddbound) rfl) (He.glo_ok X G (c.d.fact 22 (f := .glo "bound") rfl)) fun _ _ _ _ _ _ us hl => match us, hl with | [_, _], _ => rfl
  obtain ⟨D_unit⟩ := def_mkH (st := s_unit) (ps := ["bits"]) (c.d.def_ 23 (d := dd_unit) rfl) (He.glo_ok X G (c.d.fact 23 (f := .glo "_unit") rfl)) fun _ _ _ _ _ _ us hl => match us, hl with | [_], _ => rfl
  obtain ⟨D_root⟩ := def_mkH (st := s_root) (ps := ["square", "bits"]) (c.d.def_ 24 (d := dd_root) rfl) (He.glo_ok X G (c.d.fact 24 (f := .glo "_root") rfl)) fun _ _ _ _ _ _ us hl => match us, hl with | [_, _], _ => rfl
  obtain ⟨D_scaled⟩ := def_mkH (st := s_scaled) (ps := ["one", "other", "bits"]) (c.d.def_ 25 (d := dd_scaled) rfl) (He.glo_ok X G (c.d.fact 25 (f := .glo "_scaled") rfl)) fun _ _ _ _ _ _ us hl => match us, hl with | [_, _, _], _ => rfl
  obtain ⟨Dbasis_of⟩ := def_mkH (st := sbasis_of) (ps := ["tower", "bits"]) (c.d.def_ 26 (d := ddbasis_of) rfl) (He.glo_ok X G (c.d.fact 26 (f := .glo "basis_of") rfl)) fun _ _ _ _ _ _ us hl => match us, hl with | [_, _], _ => rfl
  obtain ⟨Dsign_of⟩ := def_mkH (st := ssign_of) (ps := ["tower", "vector"]) (c.d.def_ 27 (d := ddsign_of) rfl) (He.glo_ok X G (c.d.fact 27 (f := .glo "sign_of") rfl)) fun _ _ _ _ _ _ us hl => match us, hl with | [_, _], _ => rfl
  obtain ⟨Dpositive⟩ := def_mkH (st := spositive) (ps := ["tower", "element"]) (c.d.def_ 28 (d := ddpositive) rfl) (He.glo_ok X G (c.d.fact 28 (f := .glo "positive") rfl)) fun _ _ _ _ _ _ us hl => match us, hl with | [_, _], _ => rfl
  obtain ⟨Dapart⟩ := def_mkH (st := sapart) (ps := ["one", "other"]) (c.d.def_ 29 (d := ddapart) rfl) (He.glo_ok X G (c.d.fact 29 (f := .glo "apart") rfl)) fun _ _ _ _ _ _ us hl => match us, hl with | [_, _], _ => rfl
  obtain ⟨D_bases⟩ := def_mkH (st := s_bases) (ps := ["tower", "bits"]) (c.d.def_ 30 (d := dd_bases) rfl) (He.glo_ok X G (c.d.fact 30 (f := .glo "_bases") rfl)) fun _ _ _ _ _ _ us hl => match us, hl with | [_, _], _ => rfl
  obtain ⟨D_count_below_first⟩ := def_mkH (st := s_count_below_first) (ps := ["found"]) (c.d.def_ 31 (d := dd_count_below_first) rfl) (He.glo_ok X G (c.d.fact 31 (f := .glo "_count_below_first") rfl)) fun _ _ _ _ _ _ us hl => match us, hl with | [_], _ => rfl
  obtain ⟨Dplace_of⟩ := def_mkH (st := splace_of) (ps := ["tower", "vector"]) (c.d.def_ 32 (d := ddplace_of) rfl) (He.glo_ok X G (c.d.fact 32 (f := .glo "place_of") rfl)) fun _ _ _ _ _ _ us hl => match us, hl with | [_, _], _ => rfl
  obtain ⟨D_integer_root⟩ := def_mkH (st := s_integer_root) (ps := ["n"]) (c.d.def_ 33 (d := dd_integer_root) rfl) (He.glo_ok X G (c.d.fact 33 (f := .glo "_integer_root") rfl)) fun _ _ _ _ _ _ us hl => match us, hl with | [_], _ => rfl
  obtain ⟨Dsquare_root⟩ := def_mkH (st := ssquare_root) (ps := ["tower", "vector"]) (c.d.def_ 34 (d := ddsquare_root) rfl) (He.glo_ok X G (c.d.fact 34 (f := .glo "square_root") rfl)) fun _ _ _ _ _ _ us hl => match us, hl with | [_, _], _ => rfl
  obtain ⟨D_root_without_last⟩ := def_mkH (st := s_root_without_last) (ps := ["tower", "vector"]) (c.d.def_ 35 (d := dd_root_without_last) rfl) (He.glo_ok X G (c.d.fact 35 (f := .glo "_root_without_last") rfl)) fun _ _ _ _ _ _ us hl => match us, hl with | [_, _], _ => rfl
  obtain ⟨D_means⟩ := def_mkH (st := s_means) (ps := ["tower", "vector"]) (c.d.def_ 36 (d := dd_means) rfl) (He.glo_ok X G (c.d.fact 36 (f := .glo "_means") rfl)) fun _ _ _ _ _ _ us hl => match us, hl with | [_, _], _ => rfl
  obtain ⟨D_square_part⟩ := def_mkH (st := s_square_part) (ps := ["n"]) (c.d.def_ 37 (d := dd_square_part) rfl) (He.glo_ok X G (c.d.fact 37 (f := .glo "_square_part") rfl)) fun _ _ _ _ _ _ us hl => match us, hl with | [_], _ => rfl
  obtain ⟨Dadjoined⟩ := def_mkH (st := sadjoined) (ps := ["tower", "square"]) (c.d.def_ 38 (d := ddadjoined) rfl) (He.glo_ok X G (c.d.fact 38 (f := .glo "adjoined") rfl)) fun _ _ _ _ _ _ us hl => match us, hl with | [_, _], _ => rfl
  obtain ⟨D_partner⟩ := def_mkH (st := s_partner) (ps := ["tower", "size", "vector"]) (c.d.def_ 39 (d := dd_partner) rfl) (He.glo_ok X G (c.d.fact 39 (f := .glo "_partner") rfl)) fun _ _ _ _ _ _ us hl => match us, hl with | [_, _, _], _ => rfl
  obtain ⟨Dnew_squares⟩ := def_mkH (st := snew_squares) (ps := ["tower", "base"]) (c.d.def_ 40 (d := ddnew_squares) rfl) (He.glo_ok X G (c.d.fact 40 (f := .glo "new_squares") rfl)) fun _ _ _ _ _ _ us hl => match us, hl with | [_, _], _ => rfl
  obtain ⟨Dwidened⟩ := def_mkH (st := swidened) (ps := ["element", "size"]) (c.d.def_ 41 (d := ddwidened) rfl) (He.glo_ok X G (c.d.fact 41 (f := .glo "widened") rfl)) fun _ _ _ _ _ _ us hl => match us, hl with | [_, _], _ => rfl
  obtain ⟨Dimage⟩ := def_mkH (st := simage) (ps := ["tower", "images", "vector"]) (c.d.def_ 42 (d := ddimage) rfl) (He.glo_ok X G (c.d.fact 42 (f := .glo "image") rfl)) fun _ _ _ _ _ _ us hl => match us, hl with | [_, _, _], _ => rfl
  obtain ⟨Dimage_of_element⟩ := def_mkH (st := simage_of_element) (ps := ["tower", "images", "element"]) (c.d.def_ 43 (d := ddimage_of_element) rfl) (He.glo_ok X G (c.d.fact 43 (f := .glo "image_of_element") rfl)) fun _ _ _ _ _ _ us hl => match us, hl with | [_, _, _], _ => rfl
  obtain ⟨Droot_in⟩ := def_mkH (st := sroot_in) (ps := ["tower", "square"]) (c.d.def_ 44 (d := ddroot_in) rfl) (He.glo_ok X G (c.d.fact 44 (f := .glo "root_in") rfl)) fun _ _ _ _ _ _ us hl => match us, hl with | [_, _], _ => rfl
  obtain ⟨D_known_root⟩ := def_mkH (st := s_known_root) (ps := ["tower", "square"]) (c.d.def_ 45 (d := dd_known_root) rfl) (He.glo_ok X G (c.d.fact 45 (f := .glo "_known_root") rfl)) fun _ _ _ _ _ _ us hl => match us, hl with | [_, _], _ => rfl
  obtain ⟨Djoined⟩ := def_mkH (st := sjoined) (ps := ["tower", "other", "most"]) (c.d.def_ 46 (d := ddjoined) rfl) (He.glo_ok X G (c.d.fact 46 (f := .glo "joined") rfl)) fun _ _ _ _ _ _ us hl => match us, hl with | [_, _, _], _ => rfl
  obtain ⟨Dprimitive⟩ := def_mkH (st := sprimitive) (ps := ["polynomial"]) (c.d.def_ 47 (d := ddprimitive) rfl) (He.glo_ok X G (c.d.fact 47 (f := .glo "primitive") rfl)) fun _ _ _ _ _ _ us hl => match us, hl with | [_], _ => rfl
  obtain ⟨D_polynomial_square⟩ := def_mkH (st := s_polynomial_square) (ps := ["tower", "terms"]) (c.d.def_ 48 (d := dd_polynomial_square) rfl) (He.glo_ok X G (c.d.fact 48 (f := .glo "_polynomial_square") rfl)) fun _ _ _ _ _ _ us hl => match us, hl with | [_, _], _ => rfl
  obtain ⟨Dcharacteristic⟩ := def_mkH (st := scharacteristic) (ps := ["tower", "vector", "base"]) (c.d.def_ 49 (d := ddcharacteristic) rfl) (He.glo_ok X G (c.d.fact 49 (f := .glo "characteristic") rfl)) fun _ _ _ _ _ _ us hl => match us, hl with | [_, _, _], _ => rfl
  obtain ⟨D_polynomial_root⟩ := def_mkH (st := s_polynomial_root) (ps := ["tower", "terms"]) (c.d.def_ 50 (d := dd_polynomial_root) rfl) (He.glo_ok X G (c.d.fact 50 (f := .glo "_polynomial_root") rfl)) fun _ _ _ _ _ _ us hl => match us, hl with | [_, _], _ => rfl
  obtain ⟨D_least_terms⟩ := def_mkH (st := s_least_terms) (ps := ["tower", "vector", "base"]) (c.d.def_ 51 (d := dd_least_terms) rfl) (He.glo_ok X G (c.d.fact 51 (f := .glo "_least_terms") rfl)) fun _ _ _ _ _ _ us hl => match us, hl with | [_, _, _], _ => rfl
  obtain ⟨D_degree⟩ := def_mkH (st := s_degree) (ps := ["tower", "element", "base"]) (c.d.def_ 52 (d := dd_degree) rfl) (He.glo_ok X G (c.d.fact 52 (f := .glo "_degree") rfl)) fun _ _ _ _ _ _ us hl => match us, hl with | [_, _, _], _ => rfl
  obtain ⟨Dleast_polynomial⟩ := def_mkH (st := sleast_polynomial) (ps := ["tower", "element"]) (c.d.def_ 53 (d := ddleast_polynomial) rfl) (He.glo_ok X G (c.d.fact 53 (f := .glo "least_polynomial") rfl)) fun _ _ _ _ _ _ us hl => match us, hl with | [_, _], _ => rfl
  obtain ⟨D_with_root_below⟩ := def_mkH (st := s_with_root_below) (ps := ["tower", "element", "base", "degree"]) (c.d.def_ 54 (d := dd_with_root_below) rfl) (He.glo_ok X G (c.d.fact 54 (f := .glo "_with_root_below") rfl)) fun _ _ _ _ _ _ us hl => match us, hl with | [_, _, _, _], _ => rfl
  obtain ⟨Dleast_field⟩ := def_mkH (st := sleast_field) (ps := ["tower", "element"]) (c.d.def_ 55 (d := ddleast_field) rfl) (He.glo_ok X G (c.d.fact 55 (f := .glo "least_field") rfl)) fun _ _ _ _ _ _ us hl => match us, hl with | [_, _], _ => rfl
  obtain ⟨D_rank⟩ := def_mkH (st := s_rank) (ps := ["tower"]) (c.d.def_ 56 (d := dd_rank) rfl) (He.glo_ok X G (c.d.fact 56 (f := .glo "_rank") rfl)) fun _ _ _ _ _ _ us hl => match us, hl with | [_], _ => rfl
  obtain ⟨D_in_one_tower⟩ := def_mkH (st := s_in_one_tower) (ps := ["one", "other", "most"]) (c.d.def_ 57 (d := dd_in_one_tower) rfl) (He.glo_ok X G (c.d.fact 57 (f := .glo "_in_one_tower") rfl)) fun _ _ _ _ _ _ us hl => match us, hl with | [_, _, _], _ => rfl
  obtain ⟨Dtogether⟩ := def_mkH (st := stogether) (ps := ["one", "other"]) (c.d.def_ 58 (d := ddtogether) rfl) (He.glo_ok X G (c.d.fact 58 (f := .glo "together") rfl)) fun _ _ _ _ _ _ us hl => match us, hl with | [_, _], _ => rfl
  obtain ⟨Dwhole_element⟩ := def_mkH (st := swhole_element) (ps := ["n"]) (c.d.def_ 59 (d := ddwhole_element) rfl) (He.glo_ok X G (c.d.fact 59 (f := .glo "whole_element") rfl)) fun _ _ _ _ _ _ us hl => match us, hl with | [_], _ => rfl
  obtain ⟨D_alike⟩ := def_mkH (st := s_alike) (ps := ["one", "other"]) (c.d.def_ 60 (d := dd_alike) rfl) (He.glo_ok X G (c.d.fact 60 (f := .glo "_alike") rfl)) fun _ _ _ _ _ _ us hl => match us, hl with | [_, _], _ => rfl
  obtain ⟨D_shortest⟩ := def_mkH (st := s_shortest) (ps := ["element"]) (c.d.def_ 61 (d := dd_shortest) rfl) (He.glo_ok X G (c.d.fact 61 (f := .glo "_shortest") rfl)) fun _ _ _ _ _ _ us hl => match us, hl with | [_], _ => rfl
  obtain ⟨Dnumber_in⟩ := def_mkH (st := snumber_in) (ps := ["tower", "element"]) (c.d.def_ 62 (d := ddnumber_in) rfl) (He.glo_ok X G (c.d.fact 62 (f := .glo "number_in") rfl)) fun _ _ _ _ _ _ us hl => match us, hl with | [_, _], _ => rfl
  obtain ⟨D_both⟩ := def_mkH (st := s_both) (ps := ["one", "other"]) (c.d.def_ 63 (d := dd_both) rfl) (He.glo_ok X G (c.d.fact 63 (f := .glo "_both") rfl)) fun _ _ _ _ _ _ us hl => match us, hl with | [_, _], _ => rfl
  obtain ⟨D_order⟩ := def_mkH (st := s_order) (ps := ["one", "other"]) (c.d.def_ 64 (d := dd_order) rfl) (He.glo_ok X G (c.d.fact 64 (f := .glo "_order") rfl)) fun _ _ _ _ _ _ us hl => match us, hl with | [_, _], _ => rfl
  obtain ⟨D_fault⟩ := def_mkH (st := s_fault) (ps := ["words"]) (c.d.def_ 65 (d := dd_fault) rfl) (He.glo_ok X G (c.d.fact 65 (f := .glo "_fault") rfl)) fun _ _ _ _ _ _ us hl => match us, hl with | [_], _ => rfl
  obtain ⟨Dread_formula⟩ := def_mkH (st := sread_formula) (ps := ["text"]) (c.d.def_ 66 (d := ddread_formula) rfl) (He.glo_ok X G (c.d.fact 66 (f := .glo "read_formula") rfl)) fun _ _ _ _ _ _ us hl => match us, hl with | [_], _ => rfl
  obtain ⟨Dwrite_formula⟩ := def_mkH (st := swrite_formula) (ps := ["formula"]) (c.d.def_ 67 (d := ddwrite_formula) rfl) (He.glo_ok X G (c.d.fact 67 (f := .glo "write_formula") rfl)) fun _ _ _ _ _ _ us hl => match us, hl with | [_], _ => rfl
  obtain ⟨D_inside_first⟩ := def_mkH (st := s_inside_first) (ps := ["formula"]) (c.d.def_ 68 (d := dd_inside_first) rfl) (He.glo_ok X G (c.d.fact 68 (f := .glo "_inside_first") rfl)) fun _ _ _ _ _ _ us hl => match us, hl with | [_], _ => rfl
  obtain ⟨D_combined⟩ := def_mkH (st := s_combined) (ps := ["field", "word", "parts"]) (c.d.def_ 69 (d := dd_combined) rfl) (He.glo_ok X G (c.d.fact 69 (f := .glo "_combined") rfl)) fun _ _ _ _ _ _ us hl => match us, hl with | [_, _, _], _ => rfl
  obtain ⟨Dworked_out⟩ := def_mkH (st := sworked_out) (ps := ["field", "formula"]) (c.d.def_ 70 (d := ddworked_out) rfl) (He.glo_ok X G (c.d.fact 70 (f := .glo "worked_out") rfl)) fun _ _ _ _ _ _ us hl => match us, hl with | [_, _], _ => rfl
  obtain ⟨Dvalue⟩ := def_mkH (st := svalue) (ps := ["formula"]) (c.d.def_ 71 (d := ddvalue) rfl) (He.glo_ok X G (c.d.fact 71 (f := .glo "value") rfl)) fun _ _ _ _ _ _ us hl => match us, hl with | [_], _ => rfl
  obtain ⟨D_corner_of_17⟩ := def_mkH (st := s_corner_of_17) (ps := []) (c.d.def_ 72 (d := dd_corner_of_17) rfl) (He.glo_ok X G (c.d.fact 72 (f := .glo "_corner_of_17") rfl)) fun _ _ _ _ _ _ us hl => match us, hl with | [], _ => rfl
  obtain ⟨D_of_half_the_angle⟩ := def_mkH (st := s_of_half_the_angle) (ps := ["cosine"]) (c.d.def_ 73 (d := dd_of_half_the_angle) rfl) (He.glo_ok X G (c.d.fact 73 (f := .glo "_of_half_the_angle") rfl)) fun _ _ _ _ _ _ us hl => match us, hl with | [_], _ => rfl
  obtain ⟨Dcorner⟩ := def_mkH (st := scorner) (ps := ["n"]) (c.d.def_ 74 (d := ddcorner) rfl) (He.glo_ok X G (c.d.fact 74 (f := .glo "corner") rfl)) fun _ _ _ _ _ _ us hl => match us, hl with | [_], _ => rfl
  obtain ⟨D_law_gcd⟩ := def_mkH (st := s_law_gcd) (ps := ["a", "b"]) (c.d.def_ 75 (d := dd_law_gcd) rfl) (He.glo_ok X G (c.d.fact 75 (f := .glo "_law_gcd") rfl)) fun _ _ _ _ _ _ us hl => match us, hl with | [_, _], _ => rfl
  obtain ⟨D_law_primitive⟩ := def_mkH (st := s_law_primitive) (ps := ["row"]) (c.d.def_ 76 (d := dd_law_primitive) rfl) (He.glo_ok X G (c.d.fact 76 (f := .glo "_law_primitive") rfl)) fun _ _ _ _ _ _ us hl => match us, hl with | [_], _ => rfl
  obtain ⟨D_law_words⟩ := def_mkH (st := s_law_words) (ps := ["formula"]) (c.d.def_ 77 (d := dd_law_words) rfl) (He.glo_ok X G (c.d.fact 77 (f := .glo "_law_words") rfl)) fun _ _ _ _ _ _ us hl => match us, hl with | [_], _ => rfl
  obtain ⟨D_law_depth⟩ := def_mkH (st := s_law_depth) (ps := ["formula"]) (c.d.def_ 78 (d := dd_law_depth) rfl) (He.glo_ok X G (c.d.fact 78 (f := .glo "_law_depth") rfl)) fun _ _ _ _ _ _ us hl => match us, hl with | [_], _ => rfl
  obtain ⟨D_law_is_small⟩ := def_mkH (st := s_law_is_small) (ps := ["formula"]) (c.d.def_ 79 (d := dd_law_is_small) rfl) (He.glo_ok X G (c.d.fact 79 (f := .glo "_law_is_small") rfl)) fun _ _ _ _ _ _ us hl => match us, hl with | [_], _ => rfl
  obtain ⟨D_law_is_drawable⟩ := def_mkH (st := s_law_is_drawable) (ps := ["n"]) (c.d.def_ 80 (d := dd_law_is_drawable) rfl) (He.glo_ok X G (c.d.fact 80 (f := .glo "_law_is_drawable") rfl)) fun _ _ _ _ _ _ us hl => match us, hl with | [_], _ => rfl
  obtain ⟨D_law_is_corner⟩ := def_mkH (st := s_law_is_corner) (ps := ["c", "n"]) (c.d.def_ 81 (d := dd_law_is_corner) rfl) (He.glo_ok X G (c.d.fact 81 (f := .glo "_law_is_corner") rfl)) fun _ _ _ _ _ _ us hl => match us, hl with | [_, _], _ => rfl
  obtain ⟨D_law_is_told⟩ := def_mkH (st := s_law_is_told) (ps := ["c", "n"]) (c.d.def_ 82 (d := dd_law_is_told) rfl) (He.glo_ok X G (c.d.fact 82 (f := .glo "_law_is_told") rfl)) fun _ _ _ _ _ _ us hl => match us, hl with | [_, _], _ => rfl
  obtain ⟨DNumber___add__⟩ := met_mkH (C := He.ga K "Number") (st := sNumber___add__) (ps := ["self", "other"]) (c.d.def_ 83 (d := ddNumber___add__) rfl) (He.meth_ok (c.d.fact 93 (f := .meth "Number" "__add__") rfl)) fun _ _ _ _ _ _ us hl => match us, hl with | [_, _], _ => rfl
  obtain ⟨DNumber___sub__⟩ := met_mkH (C := He.ga K "Number") (st := sNumber___sub__) (ps := ["self", "other"]) (c.d.def_ 84 (d := ddNumber___sub__) rfl) (He.meth_ok (c.d.fact 94 (f := .meth "Number" "__sub__") rfl)) fun _ _ _ _ _ _ us hl => match us, hl with | [_, _], _ => rfl
  obtain ⟨DNumber___mul__⟩ := met_mkH (C := He.ga K "Number") (st := sNumber___mul__) (ps := ["self", "other"]) (c.d.def_ 85 (d := ddNumber___mul__) rfl) (He.meth_ok (c.d.fact 95 (f := .meth "Number" "__mul__") rfl)) fun _ _ _ _ _ _ us hl => match us, hl with | [_, _], _ => rfl
  obtain ⟨DNumber___eq__⟩ := met_mkH (C := He.ga K "Number") (st := sNumber___eq__) (ps := ["self", "other"]) (c.d.def_ 86 (d := ddNumber___eq__) rfl) (He.meth_ok (c.d.fact 96 (f := .meth "Number" "__eq__") rfl)) fun _ _ _ _ _ _ us hl => match us, hl with | [_, _], _ => rfl
  obtain ⟨DNumber_below⟩ := met_mkH (C := He.ga K "Number") (st := sNumber_below) (ps := ["self", "other"]) (c.d.def_ 87 (d := ddNumber_below) rfl) (He.meth_ok (c.d.fact 97 (f := .meth "Number" "below") rfl)) fun _ _ _ _ _ _ us hl => match us, hl with | [_, _], _ => rfl
  obtain ⟨DNumber_polynomial⟩ := met_mkH (C := He.ga K "Number") (st := sNumber_polynomial) (ps := ["self"]) (c.d.def_ 88 (d := ddNumber_polynomial) rfl) (He.meth_ok (c.d.fact 98 (f := .meth "Number" "polynomial") rfl)) fun _ _ _ _ _ _ us hl => match us, hl with | [_], _ => rfl
  obtain ⟨DNumber_degree⟩ := met_mkH (C := He.ga K "Number") (st := sNumber_degree) (ps := ["self"]) (c.d.def_ 89 (d := ddNumber_degree) rfl) (He.meth_ok (c.d.fact 99 (f := .meth "Number" "degree") rfl)) fun _ _ _ _ _ _ us hl => match us, hl with | [_], _ => rfl
  obtain ⟨DNumber_place⟩ := met_mkH (C := He.ga K "Number") (st := sNumber_place) (ps := ["self"]) (c.d.def_ 90 (d := ddNumber_place) rfl) (He.meth_ok (c.d.fact 100 (f := .meth "Number" "place") rfl)) fun _ _ _ _ _ _ us hl => match us, hl with | [_], _ => rfl
  obtain ⟨DField_number⟩ := met_mkH (C := He.ga K "Field") (st := sField_number) (ps := ["self", "element"]) (c.d.def_ 91 (d := ddField_number) rfl) (He.meth_ok (c.d.fact 101 (f := .meth "Field" "number") rfl)) fun _ _ _ _ _ _ us hl => match us, hl with | [_, _], _ => rfl
  obtain ⟨DField_plus⟩ := met_mkH (C := He.ga K "Field") (st := sField_plus) (ps := ["self", "one", "other"]) (c.d.def_ 92 (d := ddField_plus) rfl) (He.meth_ok (c.d.fact 102 (f := .meth "Field" "plus") rfl)) fun _ _ _ _ _ _ us hl => match us, hl with | [_, _, _], _ => rfl
  obtain ⟨DField_minus⟩ := met_mkH (C := He.ga K "Field") (st := sField_minus) (ps := ["self", "one", "other"]) (c.d.def_ 93 (d := ddField_minus) rfl) (He.meth_ok (c.d.fact 103 (f := .meth "Field" "minus") rfl)) fun _ _ _ _ _ _ us hl => match us, hl with | [_, _, _], _ => rfl
  obtain ⟨DField_product⟩ := met_mkH (C := He.ga K "Field") (st := sField_product) (ps := ["self", "one", "other"]) (c.d.def_ 94 (d := ddField_product) rfl) (He.meth_ok (c.d.fact 104 (f := .meth "Field" "product") rfl)) fun _ _ _ _ _ _ us hl => match us, hl with | [_, _, _], _ => rfl
  obtain ⟨DField_inverted⟩ := met_mkH (C := He.ga K "Field") (st := sField_inverted) (ps := ["self", "element"]) (c.d.def_ 95 (d := ddField_inverted) rfl) (He.meth_ok (c.d.fact 105 (f := .meth "Field" "inverted") rfl)) fun _ _ _ _ _ _ us hl => match us, hl with | [_, _], _ => rfl
  obtain ⟨DField_quotient⟩ := met_mkH (C := He.ga K "Field") (st := sField_quotient) (ps := ["self", "one", "other"]) (c.d.def_ 96 (d := ddField_quotient) rfl) (He.meth_ok (c.d.fact 106 (f := .meth "Field" "quotient") rfl)) fun _ _ _ _ _ _ us hl => match us, hl with | [_, _, _], _ => rfl
  obtain ⟨DField_negative⟩ := met_mkH (C := He.ga K "Field") (st := sField_negative) (ps := ["self", "element"]) (c.d.def_ 97 (d := ddField_negative) rfl) (He.meth_ok (c.d.fact 107 (f := .meth "Field" "negative") rfl)) fun _ _ _ _ _ _ us hl => match us, hl with | [_, _], _ => rfl
  obtain ⟨DField_sign⟩ := met_mkH (C := He.ga K "Field") (st := sField_sign) (ps := ["self", "element"]) (c.d.def_ 98 (d := ddField_sign) rfl) (He.meth_ok (c.d.fact 108 (f := .meth "Field" "sign") rfl)) fun _ _ _ _ _ _ us hl => match us, hl with | [_, _], _ => rfl
  obtain ⟨DField__found_root⟩ := met_mkH (C := He.ga K "Field") (st := sField__found_root) (ps := ["self", "square"]) (c.d.def_ 99 (d := ddField__found_root) rfl) (He.meth_ok (c.d.fact 109 (f := .meth "Field" "_found_root") rfl)) fun _ _ _ _ _ _ us hl => match us, hl with | [_, _], _ => rfl
  obtain ⟨DField_root⟩ := met_mkH (C := He.ga K "Field") (st := sField_root) (ps := ["self", "square"]) (c.d.def_ 100 (d := ddField_root) rfl) (He.meth_ok (c.d.fact 110 (f := .meth "Field" "root") rfl)) fun _ _ _ _ _ _ us hl => match us, hl with | [_, _], _ => rfl
  obtain ⟨fdNumber, INumber⟩ := c.d.def_ 101 (d := ddNumber___init__) rfl
  have INumber : FunD K "__init__" "Number.__init__" (defArgs sNumber___init__) (defBody sNumber___init__) (defScope sNumber___init__) [.int 1] [] (He.ma K (He.ga K "Number") "__init__") fdNumber := INumber
  obtain ⟨dsNumber, VNumber, BdNumber⟩ := INumber.binds1 (ps := ["self", "n", "d"]) 2 0 (by simp) rfl (fun T kV doc pm an cdv ct us its hu hi => match us, its, hu, hi with | [_, _], [_], _, _ => ⟨_, rfl, rfl⟩)
  obtain ⟨dzNumber, VzNumber, BNumber⟩ := INumber.binds1 (ps := ["self", "n", "d"]) 3 1 (by simp) rfl (fun T kV doc pm an cdv ct us its hu hi => match us, its, hu, hi with | [_, _, _], [_], _, _ => ⟨_, rfl, rfl⟩)
  cases VzNumber
  have MNumber := He.mkr_ok (c.d.fact 85 (f := .mkr "Number") rfl)
  have HNumber := He.glo_ok X G (c.d.fact 83 (f := .glo "Number") rfl)
  obtain ⟨fdField, IField⟩ := c.d.def_ 102 (d := ddField___init__) rfl
  have IField : Fun K "__init__" "Field.__init__" sField___init__ (He.ma K (He.ga K "Field") "__init__") fdField := fun_ofD (F := fun _ => True) IField
  have BField := IField.binds (ps := ["self"]) fun _ _ _ _ _ _ us hl => match us, hl with | [_], _ => rfl
  have MField := He.mkr_ok (c.d.fact 90 (f := .mkr "Field") rfl)
  have HField := He.glo_ok X G (c.d.fact 88 (f := .glo "Field") rfl)
  have TNumber : ClsC K (He.ga K "Number") ["tower", "element"] := ⟨He.cls_ok (c.d.fact 84 (f := .cls "Number") rfl), fun f hf => by
    simp only [List.mem_cons, List.not_mem_nil, or_false] at hf
    rcases hf with rfl | rfl
    · exact He.noat_ok (c.d.fact 86 (f := .noat "Number" "tower") rfl)
    · exact He.noat_ok (c.d.fact 87 (f := .noat "Number" "element") rfl)⟩
  have TField : ClsC K (He.ga K "Field") ["tower", "known_roots"] := ⟨He.cls_ok (c.d.fact 89 (f := .cls "Field") rfl), fun f hf => by
    simp only [List.mem_cons, List.not_mem_nil, or_false] at hf
    rcases hf with rfl | rfl
    · exact He.noat_ok (c.d.fact 91 (f := .noat "Field" "tower") rfl)
    · exact He.noat_ok (c.d.fact 92 (f := .noat "Field" "known_roots") rfl)⟩
  have M : Names mg := { ValueError := He.free_ok X G (c.d.fact 111 (f := .free "ValueError") rfl), tuple := He.free_ok X G (c.d.fact 112 (f := .free "tuple") rfl), any := He.free_ok X G (c.d.fact 113 (f := .free "any") rfl), reversed := He.free_ok X G (c.d.fact 114 (f := .free "reversed") rfl), enumerate := He.free_ok X G (c.d.fact 115 (f := .free "enumerate") rfl), zip := He.free_ok X G (c.d.fact 116 (f := .free "zip") rfl), range := He.free_ok X G (c.d.fact 117 (f := .free "range") rfl), len := He.free_ok X G (c.d.fact 118 (f := .free "len") rfl), max := He.free_ok X G (c.d.fact 119 (f := .free "max") rfl), int := He.free_ok X G (c.d.fact 120 (f := .free "int") rfl), abs := He.free_ok X G (c.d.fact 121 (f := .free "abs") rfl), NotImplemented := He.free_ok X G (c.d.fact 122 (f := .free "NotImplemented") rfl), min := He.free_ok X G (c.d.fact 123 (f := .free "min") rfl), isinstance := He.free_ok X G (c.d.fact 124 (f := .free "isinstance") rfl), str := He.free_ok X G (c.d.fact 125 (f := .free "str") rfl), gcd := PySem.W.mg_of X G (He.eqO_ok (c.x 7 (e := (fun K => He.eqO (PySem.W.nsIn K mainGlobals "gcd") (some (some (.builtin "math.gcd"))))) rfl)), isqrt := PySem.W.mg_of X G (He.eqO_ok (c.x 8 (e := (fun K => He.eqO (PySem.W.nsIn K mainGlobals "isqrt") (some (some (.builtin "math.isqrt"))))) rfl)), FIRST_BITS := He.int_ok X G (c.d.fact 126 (f := .int "FIRST_BITS" (64)) rfl), MOST_TRIED := He.int_ok X G (c.d.fact 127 (f := .int "MOST_TRIED" (100)) rfl), MOST_GENERATORS := He.int_ok X G (c.d.fact 128 (f := .int "MOST_GENERATORS" (4)) rfl), MOST_DIGITS := He.int_ok X G (c.d.fact 129 (f := .int "MOST_DIGITS" (30)) rfl) }
  have nx : ∀ (i : Nat) (e : PySem.W.Frag → Bool), (numX "Number")[i]? = some e → e K = true := fun i e h => c.x i (e := e) (by
    have hi := (List.getElem?_eq_some_iff.mp h).1
    unfold exH
    rw [List.getElem?_append_left hi]; exact h)
  obtain ⟨isN, sfN⟩ := isT_of (He.cls_ok (c.d.fact 84 (f := .cls "Number") rfl)) nx
  have Z : CtxN P w K mg S := ⟨rfl, rfl, rfl, ⟨He.noat_ok (c.d.fact 86 (f := .noat "Number" "tower") rfl), He.noat_ok (c.d.fact 87 (f := .noat "Number" "element") rfl), He.glo_ok X G (c.d.fact 83 (f := .glo "Number") rfl), isN, sfN⟩, rfl⟩
  have DPARTS : mg "PARTS" = some (.ref (He.ga K "PARTS")) ∧ KDi K w (He.ga K "PARTS") partsD := ⟨He.glo_ok X G (c.d.fact 130 (f := .glo "PARTS") rfl), c.tab 0 (t := ("PARTS", partsD)) rfl⟩
  have DCORNERS : mg "CORNERS" = some (.ref (He.ga K "CORNERS")) ∧ KDj K w (He.ga K "CORNERS") cornersD := ⟨He.glo_ok X G (c.d.fact 131 (f := .glo "CORNERS") rfl), tabJ_ok (c.x 9 (e := (fun K => tabJ K (He.ga K "CORNERS") cornersD)) rfl)⟩
  refine ⟨fdlaw, fun s v => ?_, fun base _ _ => ?_⟩
  · have b := FunD.bindsA (ps := ["script"]) Glaw fun _ _ _ _ _ _ us hl => match us, hl with | [_], _ => rfl
    exact b s [v] rfl
  · exact chain (S := S) hall Flaw M Z TNumber TField DPARTS DCORNERS Dinteger_of D_law_state D_law_take Dplus Dminus Dtimes Dpadded Dlast_generator Dmultiplied Dby_generator Dnorm Dlowest Dinverse Delement_sum Delement_difference Delement_product Delement_quotient Dfrom_halves D_shares D_chosen Dtrimmed Dbound D_unit D_root D_scaled Dbasis_of Dsign_of Dpositive Dapart D_bases D_count_below_first Dplace_of D_integer_root Dsquare_root D_root_without_last D_means D_square_part Dadjoined D_partner Dnew_squares Dwidened Dimage Dimage_of_element Droot_in D_known_root Djoined Dprimitive D_polynomial_square Dcharacteristic D_polynomial_root D_least_terms D_degree Dleast_polynomial D_with_root_below Dleast_field D_rank D_in_one_tower Dtogether Dwhole_element D_alike D_shortest Dnumber_in D_both D_order DNumber___add__ DNumber___sub__ DNumber___mul__ DNumber___eq__ DNumber_below DNumber_polynomial DNumber_degree DNumber_place DField_number DField_plus DField_minus DField_product DField_inverted DField_quotient DField_negative DField_sign DField__found_root DField_root D_fault Dread_formula Dwrite_formula D_inside_first D_combined Dworked_out Dvalue D_corner_of_17 D_of_half_the_angle Dcorner D_law_gcd D_law_primitive D_law_words D_law_depth D_law_is_small D_law_is_drawable D_law_is_corner D_law_is_told INumber BNumber BdNumber VNumber MNumber HNumber IField BField MField HField
end K31
open PySem PySem.W PySem.Calls PyProof.Rows
theorem PySem.Challenge.cw_compasswork_k31_corners_of_polygons_holds : PySem.Challenge.rw_compasswork_k31_corners_of_polygons.Holds := by
  w_on; o_law
  refine HandSHeadRun.head_imp (r := OpenLaw.row PySem.Challenge.rw_compasswork_k31_corners_of_polygons) (q := view (OpenLaw.row PySem.Challenge.rw_compasswork_k31_corners_of_polygons).prog [0, 109]) (H := K31.hkH) (ob := K31.obH) (M := 20000) (loose := K31.nmH) (d := HandSHeadRun.topDef (OpenLaw.row PySem.Challenge.rw_compasswork_k31_corners_of_polygons).prog 109) (kwd := []) K31.obH_eq
    K31.runH (by kernel_rfl) (by kernel_rfl) (by kernel_rfl) (by rfl) (by first | assumption | decide +kernel) (by decide +kernel) ⟨rfl, rfl, rfl, rfl, rfl, by decide +kernel⟩ ?hw ?hc
  case hw => w_witness2
  case hc =>
    refine L2.walk_ofE (l := PySem.Challenge.rw_compasswork_k31_corners_of_polygons) (n := 63) (k := 72) (x := "script") (CX := L2.CX0) rfl (by decide) (by kernel_rfl) ⟨rfl, by decide, by decide⟩ ?F (fun _ _ _ _ z => z)
    intro w mg fa h Y G hmg0
    obtain ⟨K, KX, c⟩ := Y
    have hmg : mg ("law" : PySem.Str) = some (.ref fa) := by
      have e : (HandSHeadRun.topDef (OpenLaw.row PySem.Challenge.rw_compasswork_k31_corners_of_polygons).prog 109).name = ("law" : PySem.Str) := by kernel_rfl
      rw [← e]
      exact hmg0
    obtain ⟨fd, hb, hF⟩ := K31.factsH K31.hall (P := (PySem.Challenge.rw_compasswork_k31_corners_of_polygons).prog) (w := w) KX G hmg c
    exact ⟨K, fd, DN.splaw K, KX, hb, fun H a ns hl _ hS => ⟨a, ns, rfl, hS, hl, fun _ => rfl⟩, hF⟩

