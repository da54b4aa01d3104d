import PyProof.Rows.All
import Wide.All
import OpenK.AllK
import Wide.FinOn
import HandS.ForMost
import HandS.Wide
import HandS.Gcd
import HandS.IsInst
import HandS.TupMul
import HandS.TupAny
import HandS.Small
import KE.GoesMore
import KE.GoesEnum
import HandS.Iter
import HandS.WideBits
import HandS.Zip
import HandS.RevRange
import KE.KMathG
import HandS.Rev
import HandS.Flow
import HandS.Style
import PyProof.ConsumeWalk
import KE.KDictKeyed
import HandS.OwnEq
import KE.KOpsOwn
import HandS.Dict
import HandS.More
import HandS.List
import PyProof.AutoSeq1
import HandS.Text
import HandS.StrMore
import HandS.FStr
import KE.KExcIs
import HandS.ExcIs
import HandS.ExcInit
import HandS.ExcField
import HandS.ExcOwn
import HandS.WordsExc
import HandS.Defaults
import KE.IntTextLaws
import PyProof.Rows.RegStrFacts
import HandS.HeadHook1
import HandS.HeadHook2
import KE.KStateDown
import HandS.Ends
import HandS.Words
import HandS.Head0
import HandS.Head1
import HandS.Head2
import HandS.HeadEnd
import HandS.Head3
import HandS.Exc
import HandS.TupLe
import HandS.Deep
import PySem.Challenge.RW_compasswork_k13_meets_of_lines
set_option Elab.async false
set_option linter.all false
set_option maxRecDepth 100000
/-! what the proofs of all laws share: own rules, heaps, the state of draws, comprehensions, rows of ints -/
namespace KG
open PySem PySem.Spec PyProof.Rows L2
def co (p : List Int) (i : Nat) : Int := p.getD i 0
theorem co_ge {p : List Int} {i : Nat} (h : p.length ≤ i) : co p i = 0 := by
  simp [co, List.getD_eq_getElem?_getD, List.getElem?_eq_none h]
theorem co_mem {row : List Int} {i : Nat} (h : i < row.length) : co row i ∈ row := by simp [co, List.getD_eq_getElem?_getD, h]
/-- // by any divisor but 0 of less than 9000 bits -/
def CDivZ (_ j : Int) : Prop := j ≠ 0 ∧ j.natAbs.log2 < 9000
/-- a def that may be called -/
structure Cal (P : Program) (w : World) (K : PySem.W.Frag) (mg : Str → Option Value) (base : Heap) (k : Nat) (x : Str) (ps : List Str) (sp : Sp) where
  f : Addr
  fd : FuncData
  ok : FnOk P w K mg base CX0 k f fd ps sp
  b : Binds K fd ps []
  m : mg x = some (.ref f)
  kp : PySem.W.keepIn K (.ref f) = true
section
variable {X : Cx}
theorem op_fdivZ : OpR X (binaryOp .FloorDiv) (rI CDivZ fun i j => .int (i.fdiv j)) :=
  opI fun _ _ _ _ _ _ _ hc q => floordiv_int hc.1 q (.inl (PyProof.noPylong_of_log2 hc.2))
end
/-! ### heaps -/
theorem same_new {H : Hp} {p : Addr} (h : H p = none) (o : HO) : Same H (upd H p o) := fun b u q => by rw [upd_ne (ne_of_none q h)]; exact q
/-- all but what stands at p is as it was -/
def But (p : Addr) (H H' : Hp) : Prop := ∀ b o, b ≠ p → H b = some o → H' b = some o
theorem But.refl (p : Addr) (H : Hp) : But p H H := fun _ _ _ h => h
theorem But.trans {p : Addr} {H H1 H2 : Hp} (a : But p H H1) (b : But p H1 H2) : But p H H2 := fun c o n h => b c o n (a c o n h)
theorem But.of {p : Addr} {H H' : Hp} (s : Same H H') : But p H H' := fun b o _ h => s b o h
theorem But.put {p : Addr} (H : Hp) (o : HO) : But p H (upd H p o) := fun b u n h => by rw [upd_ne n]; exact h
theorem But.seq {K : PySem.W.Frag} {p : Addr} {H H' : Hp} {a : Addr} {xs : List V} (e : But p H H') (n : a ≠ p) (h : SqL K H a xs) : SqL K H' a xs := by
  rcases h with (h | ⟨o, h⟩) | h
  · exact .inl (.inl (e _ _ n h))
  · exact .inl (.inr ⟨o, e _ _ n h⟩)
  · exact .inr h
theorem But.seqT {K : PySem.W.Frag} {p : Addr} {H H' : Hp} {a : Addr} {xs : List V} (e : But p H H') (n : a ≠ p) (h : SqT K H a xs) : SqT K H' a xs := by
  rcases h with (h | ⟨o, h⟩) | h
  · exact .inl (.inl (e _ _ n h))
  · exact .inl (.inr ⟨o, e _ _ n h⟩)
  · exact .inr h
theorem Same.seqT {K : PySem.W.Frag} {H H' : Hp} {a : Addr} {xs : List V} (e : Same H H') (h : SqT K H a xs) : SqT K H' a xs := by
  rcases h with (h | ⟨o, h⟩) | h
  · exact .inl (.inl (e _ _ h))
  · exact .inl (.inr ⟨o, e _ _ h⟩)
  · exact .inr h
/-! ### the state that numbers are drawn from -/
def stL (a e : Addr) (r c m : Int) : List V := [.ref a, .int r, .int c, .int m, .ref e, .int 0, .int 0, .int 0]
def StOk (ns : List Int) (r c m : Int) : Prop := (m = 1 ∧ 0 < ns.length) ∨ (m = 0 ∧ 0 ≤ r ∧ 0 ≤ c)
theorem upd_self {H : Hp} {p : Addr} {o : HO} (h : H p = some o) : upd H p o = H := by
  funext b
  by_cases e : b = p
  · rw [e, upd_same, h]
  · rw [upd_ne e]
theorem same_upd {H H' : Hp} (s : Same H H') (p : Addr) (o : HO) : Same (upd H p o) (upd H' p o) := fun b u h => by
  by_cases e : b = p
  · rw [e, upd_same] at h ⊢; exact h
  · rw [upd_ne e] at h ⊢; exact s b u h
theorem but_upd {p : Addr} {H H' : Hp} (s : But p H H') (o : HO) : Same (upd H p o) (upd H' p o) := fun b u h => by
  by_cases e : b = p
  · rw [e, upd_same] at h ⊢; exact h
  · rw [upd_ne e] at h ⊢; exact s b u e h
/-- a list that is to be read whatever stands at p -/
def SqO (K : PySem.W.Frag) (H : Hp) (p a : Addr) (xs : List V) : Prop := ∀ o, SqL K (upd H p o) a xs
theorem SqO.new {K : PySem.W.Frag} {H : Hp} {p a : Addr} {xs : List V} (h : SqL K H a xs) (n : H p = none) : SqO K H p a xs := fun o => (same_new n o).seq h
theorem SqO.now {K : PySem.W.Frag} {H : Hp} {p a : Addr} {xs : List V} {o : HO} (h : SqO K H p a xs) (e : H p = some o) : SqL K H a xs := by
  have := h o
  rwa [upd_self e] at this
theorem SqO.but {K : PySem.W.Frag} {H H' : Hp} {p a : Addr} {xs : List V} (h : SqO K H p a xs) (s : But p H H') : SqO K H' p a xs := fun o => (but_upd s o).seq (h o)
def StX (H : Hp) (p a : Addr) (ns : List Int) : Prop := ∃ (e : Addr) (r c m : Int), H p = some (.lst (stL a e r c m)) ∧ StOk ns r c m
theorem StX.but {H H' : Hp} {p a : Addr} {ns : List Int} (h : StX H p a ns) (e : H' p = H p) : StX H' p a ns := by
  obtain ⟨x, r, c, m, h1, h2⟩ := h
  exact ⟨x, r, c, m, e ▸ h1, h2⟩
theorem StX.same {H H' : Hp} {p a : Addr} {ns : List Int} (h : StX H p a ns) (s : Same H H') : StX H' p a ns := by
  obtain ⟨x, r, c, m, h1, h2⟩ := h
  exact ⟨x, r, c, m, s _ _ h1, h2⟩
theorem at_n {ns : List Int} {i : Int} (h0 : 0 ≤ i) (h1 : i < ns.length) : ∃ v : Int, atI (ns.map V.int) i = some (.int v) := by
  obtain ⟨k, rfl⟩ := Int.eq_ofNat_of_zero_le h0
  have hk : k < ns.length := by omega
  exact ⟨ns[k], atI_nat (by rw [List.getElem?_map, List.getElem?_eq_getElem hk]; rfl)⟩
/-! ### comprehensions whose step leaves the objects as they are -/
section
variable {K : PySem.W.Frag} {a D : Addr} {xs : List V} {g : TG} {te : TE} {vs : List Nat} {σ : L2.St} {H1 : Hp} {Qd : Hp → Prop}
theorem grown {H : Hp} {D : Addr} {xs : List V} {G : V → V} {i : Nat} {x : V} (hx : xs[i]? = some x) (hl : xs.length ≤ 1000) : (((xs.take i).map G).length < sizeLine) ∧ ((xs.take i).map G ++ [G x] = (xs.take (i + 1)).map G) := by
  have hi : i < xs.length := (List.getElem?_eq_some_iff.mp hx).1
  refine ⟨small1000 (by rw [List.length_map, List.length_take]; omega), ?_⟩
  rw [List.take_add_one, hx, List.map_append]; rfl
theorem comp_list (G : V → V) (hx : SqL K H1 a xs) (hD : H1 D = none) (hl : xs.length ≤ 1000)
    (hs : ∀ (i : Nat) (x : V) (H : Hp) (Nx : V → Hp → Prop), xs[i]? = some x → Same H1 H → Nx (G x) H → g x (wipe σ vs) H fun σ2 H2 => wipe σ2 vs = wipe σ vs ∧ te σ2 H2 Nx)
    (hd : ∀ H, Same H1 H → H D = some (.lst (xs.map G)) → Qd H) :
    ∃ W : Nat → Nat → Hp → Prop, (∃ m, W 0 m (upd H1 D (.lst []))) ∧ ∀ i m H, W i m H →
      ((Itl K a).stop i H ∧ Qd H) ∨ ((Itl K a).go i H ∧ ∃ Nx : Hp → Prop, (∀ H', Nx H' → ∃ m', m' < m ∧ W (i + 1) m' H') ∧ ∀ x H', (Itl K a).yld i H x H' → g x (wipe σ vs) H' fun σ2 H2 => wipe σ2 vs = wipe σ vs ∧ tYes σ2 H2 fun b H3 =>
        if b = true then te σ2 H3 fun y H4 => ∃ acc, H4 D = some (.lst acc) ∧ acc.length < sizeLine ∧ Nx (upd H4 D (.lst (acc ++ [y]))) else Nx H3) := by
  refine lc_list (xs := xs) (fun i H => Same H1 H ∧ H D = some (.lst ((xs.take i).map G))) ⟨same_new hD _, upd_same⟩ (fun i H _ h => h.1.seq hx) (fun i x H hix h => ?_) (fun H h => hd H h.1 (by rw [h.2, List.take_length]))
  have hg := grown (H := H) (D := D) (G := G) hix hl
  have := hs i x H (fun y H4 => ∃ acc, H4 D = some (.lst acc) ∧ acc.length < sizeLine ∧ (Same H1 (upd H4 D (.lst (acc ++ [y]))) ∧ (upd H4 D (.lst (acc ++ [y]))) D = some (.lst ((xs.take (i + 1)).map G)))) hix h.1
    ⟨_, h.2, hg.1, fun b o e => by rw [upd_ne (ne_of_none e hD)]; exact h.1 b o e, by rw [upd_same, hg.2]⟩
  exact this
theorem comp_tup (G : V → V) (hx : SqT K H1 a xs) (hD : H1 D = none) (hl : xs.length ≤ 1000)
    (hs : ∀ (i : Nat) (x : V) (H : Hp) (Nx : V → Hp → Prop), xs[i]? = some x → Same H1 H → Nx (G x) H → g x (wipe σ vs) H fun σ2 H2 => wipe σ2 vs = wipe σ vs ∧ te σ2 H2 Nx)
    (hd : ∀ H, Same H1 H → H D = some (.lst (xs.map G)) → Qd H) :
    ∃ W : Nat → Nat → Hp → Prop, (∃ m, W 0 m (upd H1 D (.lst []))) ∧ ∀ i m H, W i m H →
      ((Itt K a).stop i H ∧ Qd H) ∨ ((Itt K a).go i H ∧ ∃ Nx : Hp → Prop, (∀ H', Nx H' → ∃ m', m' < m ∧ W (i + 1) m' H') ∧ ∀ x H', (Itt K a).yld i H x H' → g x (wipe σ vs) H' fun σ2 H2 => wipe σ2 vs = wipe σ vs ∧ tYes σ2 H2 fun b H3 =>
        if b = true then te σ2 H3 fun y H4 => ∃ acc, H4 D = some (.lst acc) ∧ acc.length < sizeLine ∧ Nx (upd H4 D (.lst (acc ++ [y]))) else Nx H3) := by
  refine lc_tup (xs := xs) (fun i H => Same H1 H ∧ H D = some (.lst ((xs.take i).map G))) ⟨same_new hD _, upd_same⟩ (fun i H _ h => Same.seqT h.1 hx) (fun i x H hix h => ?_) (fun H h => hd H h.1 (by rw [h.2, List.take_length]))
  have hg := grown (H := H) (D := D) (G := G) hix hl
  have := hs i x H (fun y H4 => ∃ acc, H4 D = some (.lst acc) ∧ acc.length < sizeLine ∧ (Same H1 (upd H4 D (.lst (acc ++ [y]))) ∧ (upd H4 D (.lst (acc ++ [y]))) D = some (.lst ((xs.take (i + 1)).map G)))) hix h.1
    ⟨_, h.2, hg.1, fun b o e => by rw [upd_ne (ne_of_none e hD)]; exact h.1 b o e, by rw [upd_same, hg.2]⟩
  exact this
end
/-- a list or a tuple -/
def Sq (K : PySem.W.Frag) (H : Hp) (a : Addr) (xs : List V) : Prop := SqL K H a xs ∨ SqT K H a xs
theorem Sq.same {K : PySem.W.Frag} {H H' : Hp} {a : Addr} {xs : List V} (h : Sq K H a xs) (s : Same H H') : Sq K H' a xs := h.elim (fun h => .inl (s.seq h)) fun h => .inr (Same.seqT s h)
theorem Sq.but {K : PySem.W.Frag} {p : Addr} {H H' : Hp} {a : Addr} {xs : List V} (h : Sq K H a xs) (n : a ≠ p) (s : But p H H') : Sq K H' a xs := h.elim (fun h => .inl (s.seq n h)) fun h => .inr (s.seqT n h)
/-! ### ints in lists -/
theorem map_at {row : List Int} {i : Nat} (h : i < row.length) : (row.map V.int)[i]? = some (.int (co row i)) := by
  rw [List.getElem?_map, List.getElem?_eq_getElem h]
  simp [co, List.getD_eq_getElem?_getD, h]
theorem map_atI {row : List Int} {i : Int} (h0 : 0 ≤ i) (h : i < row.length) : atI (row.map V.int) i = some (.int (co row i.toNat)) := by
  obtain ⟨k, rfl⟩ := Int.eq_ofNat_of_zero_le h0
  exact atI_nat (map_at (by omega))
theorem map_last {row : List Int} (h : row ≠ []) : atI (row.map V.int) (-1) = some (.int (co row (row.length - 1))) := by
  have hp := List.length_pos_iff.mpr h
  have e : ixN (row.map V.int).length (-1) = some (row.length - 1) := by
    unfold ixN
    rw [if_neg (by decide), if_pos (by rw [List.length_map]; omega), List.length_map]
    congr 1; omega
  unfold atI
  rw [e]
  exact map_at (by omega)
theorem map_mem {row : List Int} {i : Nat} {x : V} (h : (row.map V.int)[i]? = some x) : i < row.length ∧ x = .int (co row i) := by
  have hi : i < row.length := by
    have := (List.getElem?_eq_some_iff.mp h).1
    rwa [List.length_map] at this
  refine ⟨hi, ?_⟩
  rw [map_at hi] at h
  exact (Option.some.inj h).symm
theorem log_small {z : Int} {n m : Nat} (h : z.natAbs < 2 ^ n) (h0 : 0 < n) (hm : n ≤ m) : z.natAbs.log2 < m := Nat.lt_of_lt_of_le (PySem.Flt.log2_lt_of h0 h) hm
section
variable {D : Addr} {g : TG} {te : TE} {vs : List Nat} {σ : L2.St} {H1 : Hp} {Qd : Hp → Prop}
theorem comp_range (G : Nat → V) (n : Nat) (hD : H1 D = none) (hl : n ≤ 1000)
    (hs : ∀ (i : Nat) (H : Hp) (Nx : V → Hp → Prop), i < n → Same H1 H → Nx (G i) H → g (.int (0 + (i : Nat))) (wipe σ vs) H fun σ2 H2 => wipe σ2 vs = wipe σ vs ∧ te σ2 H2 Nx)
    (hd : ∀ H, Same H1 H → H D = some (.lst ((List.range n).map G)) → Qd H) :
    ∃ W : Nat → Nat → Hp → Prop, (∃ m, W 0 m (upd H1 D (.lst []))) ∧ ∀ i m H, W i m H →
      ((Itr 0 n).stop i H ∧ Qd H) ∨ ((Itr 0 n).go i H ∧ ∃ Nx : Hp → Prop, (∀ H', Nx H' → ∃ m', m' < m ∧ W (i + 1) m' H') ∧ ∀ x H', (Itr 0 n).yld i H x H' → g x (wipe σ vs) H' fun σ2 H2 => wipe σ2 vs = wipe σ vs ∧ tYes σ2 H2 fun b H3 =>
        if b = true then te σ2 H3 fun y H4 => ∃ acc, H4 D = some (.lst acc) ∧ acc.length < sizeLine ∧ Nx (upd H4 D (.lst (acc ++ [y]))) else Nx H3) := by
  refine lc_range (lo := 0) (n := n) (fun i H => Same H1 H ∧ H D = some (.lst ((List.range i).map G))) ⟨same_new hD _, upd_same⟩ (fun i H hi h => ?_) (fun H h => hd H h.1 h.2)
  have := hs i H (fun y H4 => ∃ acc, H4 D = some (.lst acc) ∧ acc.length < sizeLine ∧ (Same H1 (upd H4 D (.lst (acc ++ [y]))) ∧ (upd H4 D (.lst (acc ++ [y]))) D = some (.lst ((List.range (i + 1)).map G)))) hi h.1
    ⟨_, h.2, small1000 (by rw [List.length_map, List.length_range]; omega), fun b o e => by rw [upd_ne (ne_of_none e hD)]; exact h.1 b o e, by rw [upd_same, List.range_succ, List.map_append]; rfl⟩
  exact this
end
/-- an item of a list or a tuple of ints -/
theorem rix {K : PySem.W.Frag} {H : Hp} {a : Addr} {row : List Int} {i : Int} {Q : VK} (h : Sq K H a (row.map V.int)) (h0 : 0 ≤ i) (h1 : i < row.length) (q : Q (.int (co row i.toNat)) H) : rIx K (.ref a) (.int i) H Q :=
  h.elim (fun h => .inl ⟨a, _, _, _, rfl, rfl, h, map_atI h0 h1, q⟩) fun h => .inr (.inl ⟨a, _, _, _, rfl, rfl, h, map_atI h0 h1, q⟩)
theorem set_map {p : List Int} {k : Nat} {z : Int} : (p.map V.int).set k (.int z) = (p.set k z).map V.int := by rw [List.map_set]
theorem ixN_nat {n : Nat} {k : Int} (h0 : 0 ≤ k) (h : k < n) : ixN n k = some k.toNat := by
  unfold ixN; rw [if_pos h0, if_pos h]
theorem cut_to (xs : List V) (n : Nat) (h : n ≤ xs.length) : cutV xs none (some (n : Int)) = xs.take n := by
  unfold cutV
  rw [HT.sIx_none, HT.sIx_nat, Nat.min_eq_left h, List.drop_zero, Nat.sub_zero]
def rLen (K : PySem.W.Frag) : List V → Hp → VK → Prop := fun xs H Q => ∃ p ys, xs = [.ref p] ∧ (SqL K H p ys ∨ SqT K H p ys) ∧ Q (.int ys.length) H
/-! the rules that read the written part, said with it: for use within a comprehension -/
section
variable {X : Cx} {K : PySem.W.Frag}
theorem call_lenK (e : X.K = K) : CallR X (.builtin "len") (rLen K) := by subst e; exact call_len_seq
theorem ix_seqK (e : X.K = K) : IxR X (rIx K) := by subst e; exact ix_seq
theorem ix_listK (e : X.K = K) : IxR X (rIxL K) := by subst e; exact ix_list
theorem ix_tupK (e : X.K = K) : IxR X (rIxT K) := by subst e; exact ix_tup
end
theorem same_put {H H' : Hp} {D : Addr} {o : HO} (s : Same H H') (hD : H D = none) : Same H (upd H' D o) := fun b u h => by
  rw [upd_ne (ne_of_none h hD)]; exact s b u h
/-! rows of ints as data -/
theorem dp_all {K : PySem.W.Frag} {H : Hp} : ∀ r : List Int, DpAll K H (r.map V.int) (r.map PyData.int)
  | [] => .nil
  | x :: r => .cons (.int x) (dp_all r)
theorem lay_all : ∀ r : List Int, PyData.canLayAll0 (r.map PyData.int) = true
  | [] => by simp [PyData.canLayAll0]
  | x :: r => by simp [PyData.canLayAll0, PyData.canLay0, lay_all r]
theorem deep_all : ∀ r : List Int, PyData.depthAll (r.map PyData.int) = 0
  | [] => by simp [PyData.depthAll]
  | x :: r => by simp [PyData.depthAll, PyData.depth, deep_all r]
theorem shaped_l (r : List Int) : SeqAt.shaped (.list (r.map PyData.int)) = true := by
  simp [SeqAt.shaped, PyData.canLay0, lay_all, PyData.depth, deep_all]
theorem shaped_t (r : List Int) : SeqAt.shaped (.tuple (r.map PyData.int)) = true := by
  simp [SeqAt.shaped, PyData.canLay0, lay_all, PyData.depth, deep_all]
theorem eqv_all : ∀ r q : List Int, PyData.eqvAll (r.map PyData.int) (q.map PyData.int) = decide (r = q)
  | [], [] => by simp [PyData.eqvAll]
  | [], y :: q => by simp [PyData.eqvAll]
  | x :: r, [] => by simp [PyData.eqvAll]
  | x :: r, y :: q => by
    have ih := eqv_all r q
    show (PyData.eqv (.int x) (.int y) && PyData.eqvAll (r.map PyData.int) (q.map PyData.int)) = _
    rw [ih]
    have e : PyData.eqv (.int x) (.int y) = (x == y) := by simp [PyData.eqv]
    rw [e, Bool.eq_iff_iff]
    simp
theorem eqv_l (r q : List Int) : PyData.eqv (.list (r.map PyData.int)) (.list (q.map PyData.int)) = decide (r = q) := by
  rw [← eqv_all]; simp [PyData.eqv]
theorem eqv_t (r q : List Int) : PyData.eqv (.tuple (r.map PyData.int)) (.tuple (q.map PyData.int)) = decide (r = q) := by
  rw [← eqv_all]; simp [PyData.eqv]
/-- the reading of a comparison of two rows -/
theorem eq_lists {K : PySem.W.Frag} {H : Hp} {a b : Addr} {r q : List Int} {Q : VK} (h1 : SqL K H a (r.map V.int)) (h2 : SqL K H b (q.map V.int)) (k : Q (.bl (decide (r = q))) H) : rEqD K (.ref a) (.ref b) H Q :=
  ⟨_, _, .lst h1 (dp_all r), .lst h2 (dp_all q), shaped_l r, shaped_l q, by rw [eqv_l]; exact k⟩
theorem eq_tups {K : PySem.W.Frag} {H : Hp} {a b : Addr} {r q : List Int} {Q : VK} (h1 : SqT K H a (r.map V.int)) (h2 : SqT K H b (q.map V.int)) (k : Q (.bl (decide (r = q))) H) : rEqD K (.ref a) (.ref b) H Q :=
  ⟨_, _, .tup h1 (dp_all r), .tup h2 (dp_all q), shaped_t r, shaped_t q, by rw [eqv_t]; exact k⟩
theorem ne_tups {K : PySem.W.Frag} {H : Hp} {a b : Addr} {r q : List Int} {Q : VK} (h1 : SqT K H a (r.map V.int)) (h2 : SqT K H b (q.map V.int)) (k : Q (.bl (!decide (r = q))) H) : rNeD K (.ref a) (.ref b) H Q :=
  ⟨_, _, .tup h1 (dp_all r), .tup h2 (dp_all q), shaped_t r, shaped_t q, by rw [eqv_t]; exact k⟩
theorem call_isiK {X : Cx} {K : PySem.W.Frag} (e : X.K = K) : CallR X (.builtin "isinstance") (rIsi K) := by subst e; exact call_isi
/-- a comprehension over a list whose step may make new objects -/
theorem comp_listS {K : PySem.W.Frag} {a D : Addr} {xs : List V} {g : TG} {te : TE} {vs : List Nat} {σ : L2.St} {H1 : Hp} {Qd : Hp → Prop} (R : V → Prop) (hx : SqL K H1 a xs) (hD : H1 D = none) (hl : xs.length ≤ 1000)
    (hs : ∀ (i : Nat) (x : V) (H : Hp) (Nx : V → Hp → Prop), xs[i]? = some x → Same H1 H → (∀ y H', Same H H' → R y → Nx y H') → g x (wipe σ vs) H fun σ2 H2 => wipe σ2 vs = wipe σ vs ∧ te σ2 H2 Nx)
    (hd : ∀ H ys, Same H1 H → H D = some (.lst ys) → ys.length = xs.length → (∀ y ∈ ys, R y) → Qd H) :
    ∃ W : Nat → Nat → Hp → Prop, (∃ m, W 0 m (upd H1 D (.lst []))) ∧ ∀ i m H, W i m H →
      ((Itl K a).stop i H ∧ Qd H) ∨ ((Itl K a).go i H ∧ ∃ Nx : Hp → Prop, (∀ H', Nx H' → ∃ m', m' < m ∧ W (i + 1) m' H') ∧ ∀ x H', (Itl K a).yld i H x H' → g x (wipe σ vs) H' fun σ2 H2 => wipe σ2 vs = wipe σ vs ∧ tYes σ2 H2 fun b H3 =>
        if b = true then te σ2 H3 fun y H4 => ∃ acc, H4 D = some (.lst acc) ∧ acc.length < sizeLine ∧ Nx (upd H4 D (.lst (acc ++ [y]))) else Nx H3) := by
  refine lc_list (xs := xs) (fun i H => Same H1 H ∧ ∃ ys, H D = some (.lst ys) ∧ ys.length = i ∧ ∀ y ∈ ys, R y) ⟨same_new hD _, [], upd_same, rfl, fun y h => by cases h⟩ (fun i H _ h => h.1.seq hx) (fun i x H hix h => ?_) (fun H h => ?_)
  · obtain ⟨sm, ys, e, l, r⟩ := h
    have hi : i < xs.length := (List.getElem?_eq_some_iff.mp hix).1
    have := hs i x H (fun y H4 => ∃ acc, H4 D = some (.lst acc) ∧ acc.length < sizeLine ∧ (Same H1 (upd H4 D (.lst (acc ++ [y]))) ∧ ∃ ys, (upd H4 D (.lst (acc ++ [y]))) D = some (.lst ys) ∧ ys.length = i + 1 ∧ ∀ y ∈ ys, R y)) hix sm
      (fun y H' s2 hr => ⟨ys, s2 _ _ e, small1000 (by omega), same_put (sm.trans s2) hD, ys ++ [y], upd_same, by rw [List.length_append, l]; rfl, fun z hz => by
        rcases List.mem_append.mp hz with hz | hz
        · exact r z hz
        · rw [List.mem_singleton.mp hz]; exact hr⟩)
    exact this
  · obtain ⟨sm, ys, e, l, r⟩ := h
    exact hd H ys sm e l r
theorem bools : ∀ ys : List V, (∀ y ∈ ys, ∃ b, y = V.bl b) → ∃ bs : List Bool, ys = bs.map V.bl
  | [], _ => ⟨[], rfl⟩
  | y :: ys, h => by
    obtain ⟨b, rfl⟩ := h y List.mem_cons_self
    obtain ⟨bs, rfl⟩ := bools ys fun z hz => h z (List.mem_cons_of_mem _ hz)
    exact ⟨b :: bs, rfl⟩
theorem StX.ne {H : Hp} {p a c : Addr} {ns : List Int} (X : StX H p a ns) (n : H c = none) : c ≠ p := fun z => by
  obtain ⟨_, _, _, _, e, _⟩ := X
  rw [z, e] at n; cases n
end KG

namespace KW
open PySem PySem.Spec PyProof.Rows L2 KG
def topS (i : Nat) : Stmt := PySem.Challenge.pw_compasswork_k13_meets_of_lines.main.body.getD i (.Pass ⟨0, 0, 0, 0⟩)
/-- the built-in names stand as they are -/
structure Names (mg : Str → Option Value) : Prop where
  ValueError : mg "ValueError" = none
  tuple : mg "tuple" = none
  any : mg "any" = none
  reversed : mg "reversed" = none
  enumerate : mg "enumerate" = none
  zip : mg "zip" = none
  range : mg "range" = none
  len : mg "len" = none
  max : mg "max" = none
  abs : mg "abs" = none
  NotImplemented : mg "NotImplemented" = none
  int : mg "int" = none
  isinstance : mg "isinstance" = none
  min : mg "min" = none
  sum : mg "sum" = none
  bool : mg "bool" = none
  gcd : mg "gcd" = some (.builtin "math.gcd")
  isqrt : mg "isqrt" = some (.builtin "math.isqrt")
  FIRST_BITS : ∃ t, mg "FIRST_BITS" = some (.int 64 t)
  MOST_GENERATORS : ∃ t, mg "MOST_GENERATORS" = some (.int 4 t)
abbrev s_law_state : Stmt := topS 99
abbrev N_law_state : List Str := ["script", "mixed", "rest"]
theorem sc_law_state : FnScope N_law_state ["script"] (defScope s_law_state) := ⟨rfl, rfl, rfl, by decide +kernel, rfl, by decide +kernel, by decide +kernel⟩
abbrev s_law_take : Stmt := topS 100
abbrev N_law_take : List Str := ["state", "many", "cell", "drawn"]
theorem sc_law_take : FnScope N_law_take ["state", "many"] (defScope s_law_take) := ⟨rfl, rfl, rfl, by decide +kernel, rfl, by decide +kernel, by decide +kernel⟩
section
variable {P : Program} {w : World} {K : PySem.W.Frag} {mg : Str → Option Value} {base : Heap}
def sp_law_state (K : PySem.W.Frag) : Sp := fun vs H Q _ => ∃ (a : Addr) (ns : List Int), vs = [.ref a] ∧ SqL K H a (ns.map V.int) ∧ ns.length ≤ 63 ∧
  ∀ H' p, Same H H' → H p = none → StX H' p a ns → SqO K H' p a (ns.map V.int) → Q (.ref p) H'
theorem ok_law_state {f : Addr} {fd : FuncData} {k : Nat} (F : Fun K "_law_state" "_law_state" s_law_state f fd) (M : Names mg) : FnOk P w K mg base CX0 (k + 1) f fd ["script"] (sp_law_state K) := by
  refine F.ok sc_law_state (fun vs H Q E h => ?_) (fun cdv A outer s H vs Q E hr h => ?_)
  · obtain ⟨a, ns, rfl, _⟩ := h
    rfl
  obtain ⟨a, ns, rfl, hS, h63, q⟩ := h
  refine ⟨_, (pss_cons (ps_set (i := 1) sc_law_state.nd rfl (.inl rfl) pe_int)
    (pss_cons (ps_set (i := 2) sc_law_state.nd rfl (.inl rfl) pe_int)
    (pss_cons (ps_if (pt_cmpR op_gt (pe_callB call_len_seq (by rfl) M.len PySem.boot_len (pa_cons (pv 0) pa_nil)) pe_int (nomark _))
      (pss_cons (ps_set (i := 1) sc_law_state.nd rfl (.inl rfl) (pe_op op_mod (pe_callTy call_int1 (by rfl) M.int (by decide +kernel) (pa_cons (pe_ix ix_list (pv 0) pe_int (fun _ _ => rfl)) pa_nil)) pe_int))
      (pss_one (ps_set (i := 2) sc_law_state.nd rfl (.inl rfl) (pe_ix ix_list (pe_lst (pa_cons (pe_op op_fdiv (pe_callB call_abs (by rfl) M.abs (by decide +kernel) (pa_cons (pe_ix ix_list (pv 0) pe_int (fun _ _ => rfl)) pa_nil)) pe_int) (pa_cons pe_int pa_nil))) (pv 1) (fun _ _ => rfl)))))
      pss_nil)
    (pss_one (ps_ret (pe_lst (pa_cons (pv 0) (pa_cons (pv 2) (pa_cons pe_int (pa_cons (pv 1) (pa_cons (pe_lst pa_nil) (pa_cons pe_int (pa_cons pe_int (pa_cons pe_int pa_nil)))))))))))))), ?_⟩
  -- the end, once for both ways
  have fin : ∀ (r m : Int) (H1 : Hp), Same H H1 → StOk ns r 1 m → ∀ e, H1 e = none → ∀ p, (upd H1 e (.lst [])) p = none → Q (.ref p) (upd (upd H1 e (.lst [])) p (.lst (stL a e r 1 m))) := fun r m H1 sm ok e he p hp => by
    have s2 : Same H1 (upd H1 e (.lst [])) := same_new he _
    have s3 : Same (upd H1 e (.lst [])) (upd (upd H1 e (.lst [])) p (.lst (stL a e r 1 m))) := same_new hp _
    exact q _ p (sm.trans (s2.trans s3)) (sm.free (s2.free hp)) ⟨e, r, 1, m, upd_same, ok⟩ ((SqO.new (s2.seq (sm.seq hS)) hp).but (.put _ _))
  refine ⟨_, rfl, a, _, rfl, .inl hS, _, _, rfl, rfl, _, rfl, ite2 (fun c => ?_) (fun c => ?_)⟩
  · have hl : (ns.map V.int).length = ns.length := List.length_map _
    have hpos : 0 < ns.length := by
      have := of_decide_eq_true c
      rw [hl] at this; omega
    obtain ⟨v, hv⟩ := at_n (ns := ns) (i := 0) (by omega) (by omega)
    refine ⟨_, rfl, a, _, _, _, rfl, rfl, hS, hv, .inl ⟨_, rfl, ?_⟩⟩
    refine ⟨_, _, rfl, rfl, (by show (0 : Int) < 2; decide), ?_⟩
    refine ⟨_, rfl, a, _, _, _, rfl, rfl, hS, hv, _, rfl, _, _, rfl, rfl, ⟨by decide, by decide⟩, (by show 2 ≤ sizeLine; decide), fun t ht => ?_⟩
    have h2 : v % 2 = 0 ∨ v % 2 = 1 := by omega
    rcases h2 with h2 | h2
    · rw [show (fun i j => V.int (i % j)) v 2 = V.int 0 from congrArg V.int h2]
      refine ⟨_, rfl, t, _, 0, _, rfl, rfl, SqL.of upd_same, atI_nat (j := 0) rfl, ?_⟩
      refine ⟨_, rfl, _, rfl, _, rfl, Nat.zero_le _, fun e he => ⟨(by show 8 ≤ sizeLine; decide), fun p hp => ?_⟩⟩
      exact fin _ _ _ (same_new ht _) (.inr ⟨rfl, by split <;> omega, by decide⟩) e he p hp
    · rw [show (fun i j => V.int (i % j)) v 2 = V.int 1 from congrArg V.int h2]
      refine ⟨_, rfl, t, _, 1, _, rfl, rfl, SqL.of upd_same, atI_nat (j := 1) rfl, ?_⟩
      refine ⟨_, rfl, _, rfl, _, rfl, Nat.zero_le _, fun e he => ⟨(by show 8 ≤ sizeLine; decide), fun p hp => ?_⟩⟩
      exact fin _ _ _ (same_new ht _) (.inl ⟨rfl, hpos⟩) e he p hp
  · refine ⟨_, rfl, _, rfl, _, rfl, Nat.zero_le _, fun e he => ⟨(by show 8 ≤ sizeLine; decide), fun p hp => ?_⟩⟩
    exact fin _ _ _ (Same.refl _) (.inr ⟨rfl, by decide, by decide⟩) e he p hp
def sp_law_take (K : PySem.W.Frag) : Sp := fun vs H Q _ => ∃ (p a : Addr) (ns : List Int) (many : Int), vs = [.ref p, .int many] ∧ StX H p a ns ∧ SqO K H p a (ns.map V.int) ∧ 0 < many ∧ many.natAbs.log2 < 9000 ∧
  ∀ (d : Int) (H' : Hp), 0 ≤ d → d < many → StX H' p a ns → But p H H' → Q (.int d) H'
theorem ok_law_take {f : Addr} {fd : FuncData} {k : Nat} (F : Fun K "_law_take" "_law_take" s_law_take f fd) (M : Names mg) : FnOk P w K mg base CX0 (k + 1) f fd ["state", "many"] (sp_law_take K) := by
  refine F.ok sc_law_take (fun vs H Q E h => ?_) (fun cdv A outer s H vs Q E hr h => ?_)
  · obtain ⟨p, a, ns, many, rfl, _⟩ := h
    rfl
  obtain ⟨p, a, ns, many, rfl, ⟨e, r, c, m, hp, ok⟩, hS, h0, h9, q⟩ := h
  refine ⟨_, (pss_cons (ps_if (pt_cmpR op_eq (pe_ix ix_list (pv 0) pe_int (fun _ _ => rfl)) pe_int (nomark _))
      (pss_cons (ps_set (i := 2) sc_law_take.nd rfl (.inl rfl) (pe_ix ix_list (pe_ix ix_list (pv 0) pe_int (fun _ _ => rfl)) (pe_op op_mod (pe_callTy call_int1 (by rfl) M.int (by decide +kernel) (pa_cons (pe_ix ix_list (pv 0) pe_int (fun _ _ => rfl)) pa_nil)) (pe_callB call_len_seq (by rfl) M.len PySem.boot_len (pa_cons (pe_ix ix_list (pv 0) pe_int (fun _ _ => rfl)) pa_nil))) (fun _ _ => rfl)))
      (pss_cons (ps_asg (pe_op op_mod (pe_callTy call_int1 (by rfl) M.int (by decide +kernel) (pa_cons (pe_op op_add (pe_op op_add (pe_op op_add (pe_op op_mul (pe_ix ix_list (pv 0) pe_int (fun _ _ => rfl)) pe_int) (pe_op op_mul (pv 2) pe_int)) (pe_op op_mul (pe_ix ix_list (pv 0) pe_int (fun _ _ => rfl)) pe_int)) pe_int) pa_nil)) pe_int) (pg_sub (pv 0) pe_int set_list))
      (pss_cons (ps_asg (pe_op op_add (pe_ix ix_list (pv 0) pe_int (fun _ _ => rfl)) pe_int) (pg_sub (pv 0) pe_int set_list))
      (pss_one (ps_ret (pe_op op_mod (pe_op op_mod (pe_callTy call_int1 (by rfl) M.int (by decide +kernel) (pa_cons (pe_op op_add (pe_op op_mul (pe_ix ix_list (pv 0) pe_int (fun _ _ => rfl)) pe_int) pe_int) pa_nil)) pe_int) (pv 1)))))))
      pss_nil)
    (pss_cons (ps_if (pt_cmpR op_eq (pe_ix ix_list (pv 0) pe_int (fun _ _ => rfl)) pe_int (nomark _))
      (pss_cons (ps_if (pt_cmpR op_ge (pe_ix ix_list (pv 0) pe_int (fun _ _ => rfl)) (pe_callB call_len_seq (by rfl) M.len PySem.boot_len (pa_cons (pe_ix ix_list (pv 0) pe_int (fun _ _ => rfl)) pa_nil)) (nomark _))
        (pss_one (ps_ret pe_int))
        pss_nil)
      (pss_cons (ps_asg (pe_callB call_abs (by rfl) M.abs (by decide +kernel) (pa_cons (pe_ix ix_list (pe_ix ix_list (pv 0) pe_int (fun _ _ => rfl)) (pe_ix ix_list (pv 0) pe_int (fun _ _ => rfl)) (fun _ _ => rfl)) pa_nil)) (pg_sub (pv 0) pe_int set_list))
      (pss_one (ps_asg (pe_op op_add (pe_ix ix_list (pv 0) pe_int (fun _ _ => rfl)) pe_int) (pg_sub (pv 0) pe_int set_list)))))
      pss_nil)
    (pss_cons (ps_set (i := 3) sc_law_take.nd rfl (.inl rfl) (pe_op op_mod (pe_callTy call_int1 (by rfl) M.int (by decide +kernel) (pa_cons (pe_ix ix_list (pv 0) pe_int (fun _ _ => rfl)) pa_nil)) (pv 1)))
    (pss_cons (ps_asg (pe_op op_fdivW (pe_ix ix_list (pv 0) pe_int (fun _ _ => rfl)) (pv 1)) (pg_sub (pv 0) pe_int set_list))
    (pss_one (ps_ret (pv 3))))))), ?_⟩
  have hSn : SqL K H a (ns.map V.int) := hS.now hp
  have hl : (ns.map V.int).length = ns.length := List.length_map _
  refine ⟨_, rfl, p, _, 3, _, rfl, rfl, SqL.of hp, atI_nat (j := 3) rfl, rfl, _, rfl, ite2 (fun t1 => ?_) (fun t1 => ?_)⟩
  · -- mixed draws
    have m1 : m = 1 := V.int.inj (of_decide_eq_true t1)
    have npos : 0 < ns.length := by
      rcases ok with ⟨_, z⟩ | ⟨z, _⟩
      · exact z
      · omega
    obtain ⟨v, hv⟩ := at_n (ns := ns) (i := c % ((ns.map V.int).length : Nat)) (Int.emod_nonneg _ (by omega)) (by rw [hl]; exact Int.emod_lt_of_pos _ (by omega))
    refine ⟨_, rfl, p, _, 0, _, rfl, rfl, SqL.of hp, atI_nat (j := 0) rfl, _, rfl, p, _, 2, _, rfl, rfl, SqL.of hp, atI_nat (j := 2) rfl, .inl ⟨_, rfl, ?_⟩⟩
    refine ⟨_, rfl, p, _, 0, _, rfl, rfl, SqL.of hp, atI_nat (j := 0) rfl, a, _, rfl, .inl hSn, _, _, rfl, rfl, (by show (0 : Int) < ((ns.map V.int).length : Nat); omega), a, _, _, _, rfl, rfl, hSn, hv, ?_⟩
    -- state[1] = ..
    refine ⟨_, rfl, p, _, 1, _, rfl, rfl, SqL.of hp, atI_nat (j := 1) rfl, _, _, rfl, rfl, .inr ⟨by decide, by decide⟩, _, rfl, _, _, rfl, rfl, .inr ⟨by decide, by decide⟩, _, _, rfl, rfl, _, rfl, p, _, 2, _, rfl, rfl, SqL.of hp, atI_nat (j := 2) rfl, _, _, rfl, rfl, .inr ⟨by decide, by decide⟩, _, _, rfl, rfl, _, _, rfl, rfl, .inl ⟨_, rfl, ?_⟩⟩
    refine ⟨_, _, rfl, rfl, (by show (0 : Int) < 2147483647; decide), _, rfl, p, _, 1, 1, rfl, rfl, hp, rfl, ?_⟩
    -- state[2] = ..
    refine ⟨_, rfl, p, _, 2, _, rfl, rfl, SqL.of upd_same, atI_nat (j := 2) rfl, _, _, rfl, rfl, _, rfl, p, _, 2, 2, rfl, rfl, upd_same, rfl, ?_⟩
    refine ⟨_, rfl, p, _, 1, _, rfl, rfl, SqL.of upd_same, atI_nat (j := 1) rfl, _, _, rfl, rfl, .inr ⟨by decide, by decide⟩, _, _, rfl, rfl, .inl ⟨_, rfl, ?_⟩⟩
    refine ⟨_, _, rfl, rfl, (by show (0 : Int) < 2147483629; decide), _, rfl, _, _, rfl, rfl, h0, ?_⟩
    refine q _ _ (Int.emod_nonneg _ (by omega)) (Int.emod_lt_of_pos _ h0) ⟨e, _, _, m, upd_same, ?_⟩ ((But.put _ _).trans (.put _ _))
    exact .inl ⟨m1, npos⟩
  · -- whole numbers, drawn from by their rests
    have m0 : m = 0 ∧ 0 ≤ r ∧ 0 ≤ c := by
      rcases ok with ⟨z, _⟩ | z
      · exact absurd (by rw [z]; rfl) t1
      · exact z
    obtain ⟨rfl, r0, c0⟩ := m0
    have fin : ∀ (r1 c1 : Int) (H1 : Hp), 0 ≤ r1 → 0 ≤ c1 → But p H H1 → H1 p = some (.lst (stL a e r1 c1 0)) → ∀ d, d = r1 % many → Q (.int d) (upd H1 p (.lst (stL a e (r1 / many) c1 0))) := fun r1 c1 H1 k1 k2 k3 k4 d hd => by
      subst hd
      exact q _ _ (Int.emod_nonneg _ (by omega)) (Int.emod_lt_of_pos _ h0) ⟨e, _, _, 0, upd_same, .inr ⟨rfl, Int.ediv_nonneg k1 (by omega), k2⟩⟩ (k3.trans (.put _ _))
    refine ⟨_, rfl, p, _, 1, _, rfl, rfl, SqL.of hp, atI_nat (j := 1) rfl, rfl, _, rfl, ite2 (fun t2 => ?_) (fun t2 => ?_)⟩
    · refine ⟨_, rfl, p, _, 2, _, rfl, rfl, SqL.of hp, atI_nat (j := 2) rfl, _, rfl, p, _, 0, _, rfl, rfl, SqL.of hp, atI_nat (j := 0) rfl, a, _, rfl, .inl hSn, _, _, rfl, rfl, _, rfl, ite2 (fun t3 => ?_) (fun t3 => ?_)⟩
      · exact q _ _ (Int.le_refl 0) h0 ⟨e, r, c, 0, hp, ok⟩ (But.refl _ _)
      · have lt : c < ((ns.map V.int).length : Nat) := by
          have := of_decide_eq_false (Bool.eq_false_iff.mpr t3)
          omega
        obtain ⟨v, hv⟩ := at_n (ns := ns) (i := c) c0 (by omega)
        refine ⟨_, rfl, p, _, 0, _, rfl, rfl, SqL.of hp, atI_nat (j := 0) rfl, _, rfl, p, _, 2, _, rfl, rfl, SqL.of hp, atI_nat (j := 2) rfl, a, _, _, _, rfl, rfl, hSn, hv, _, rfl, _, rfl, p, _, 1, 1, rfl, rfl, hp, rfl, ?_⟩
        refine ⟨_, rfl, p, _, 2, _, rfl, rfl, SqL.of upd_same, atI_nat (j := 2) rfl, _, _, rfl, rfl, _, rfl, p, _, 2, 2, rfl, rfl, upd_same, rfl, ?_⟩
        refine ⟨_, rfl, p, _, 1, _, rfl, rfl, SqL.of upd_same, atI_nat (j := 1) rfl, .inl ⟨_, rfl, ?_⟩⟩
        refine ⟨_, rfl, _, _, rfl, rfl, h0, ?_⟩
        refine ⟨_, rfl, p, _, 1, _, rfl, rfl, SqL.of upd_same, atI_nat (j := 1) rfl, _, rfl, _, _, rfl, rfl, ⟨h0, h9⟩, _, rfl, p, _, 1, 1, rfl, rfl, upd_same, rfl, ?_⟩
        refine ⟨_, rfl, ?_⟩
        exact fin (if v < 0 then -v else v) (c + 1) (upd (upd H p _) p _) (by split <;> omega) (by omega) ((But.put _ _).trans (.put _ _)) upd_same _ rfl
    · refine ⟨_, rfl, p, _, 1, _, rfl, rfl, SqL.of hp, atI_nat (j := 1) rfl, .inl ⟨_, rfl, ?_⟩⟩
      refine ⟨_, rfl, _, _, rfl, rfl, h0, ?_⟩
      refine ⟨_, rfl, p, _, 1, _, rfl, rfl, SqL.of hp, atI_nat (j := 1) rfl, _, rfl, _, _, rfl, rfl, ⟨h0, h9⟩, _, rfl, p, _, 1, 1, rfl, rfl, hp, rfl, ?_⟩
      refine ⟨_, rfl, ?_⟩
      exact fin r c H r0 c0 (But.refl _ _) hp _ rfl
end
end KW

/-! code that is never reached; methods that may be called; self.a in a tuple of targets; comprehensions whose elements are laid -/
namespace KG
open PySem PySem.Spec PyProof.Rows L2
theorem pss_nev {X : Cx} {ss : List Stmt} : PSs X ss (fun _ _ _ => False) := ⟨fun _ _ _ _ _ _ h => h.elim⟩
theorem ps_nev {X : Cx} {st : Stmt} : PS X st (fun _ _ _ => False) := ⟨fun _ _ _ _ _ _ h => h.elim⟩
theorem pe_nev {X : Cx} {e : Expr} : PE X e (fun _ _ _ => False) := ⟨fun _ _ _ _ _ _ h => h.elim⟩
theorem pt_nev {X : Cx} {e : Expr} : PT X e (fun _ _ _ => False) := ⟨fun _ _ _ _ _ _ h => h.elim⟩
/-- a method that may be called -/
structure MCal (P : Program) (w : World) (K : PySem.W.Frag) (mg : Str → Option Value) (base : Heap) (k : Nat) (C : Addr) (m : Str) (ps : List Str) (sp : Sp) where
  f : Addr
  fd : FuncData
  ok : FnOk P w K mg base CX0 k f fd ps sp
  b : Binds K fd ps []
  m : Meth K C m f
theorem Cal.up {P : Program} {w : World} {K : PySem.W.Frag} {mg : Str → Option Value} {base : Heap} {k : Nat} {x : Str} {ps : List Str} {sp : Sp} (_ : Cal P w K mg base k x ps sp) : True := trivial
def gAtt (K : PySem.W.Frag) (ta : TE) (f : Str) : TG := fun y σ H Q => ta σ H fun x H2 => ∃ a C dx fs, x = .ref a ∧ H2 a = some (.ins C dx fs) ∧ Cls K C ∧ NoAttr K C f ∧ fs.length < 1000 ∧ Q σ (upd H2 a (.ins C dx (putF f y fs)))
theorem pg_att {X : Cx} {o : Expr} {ta : TE} {f : Str} {pos : Pos} (ho : PE X o ta)
    (ha : ∀ v, assign (.Attribute o f pos) X.env v = (do { let ov ← holding [v] (eval o X.env); standAt pos.atName; holding [v, ov] (setAttr ov f v); release [v, ov] [] }) := by intro _; rfl) : PG X (.Attribute o f pos) (gAtt X.K ta f) := by
  refine ⟨fun pins s σ H v u Q I r h => ?_⟩
  rw [ha]
  refine wpAny_bind (wpAny_holding (thn (ho.run pins s σ H _ I h) fun ov s1 ⟨x, H1, I1, r1, a, C, dx, fs, ex, ea, c, n, l, q⟩ => ?_))
  subst ex
  obtain rfl : ov = Value.ref a := r1
  refine wpAny_bind (wpAny_standAt (wpAny_bind (wpAny_holding (setattr_ok I1 ea c n l r fun s3 I3 => ?_))))
  exact wpAny_release ⟨σ, _, I3, q⟩
/-! comprehensions whose elements are laid anew: R j H y tells what stands for the j-th element -/
def Kept (H H' : Hp) : Prop := ∀ b o, (∀ l, o ≠ .lst l) → H b = some o → H' b = some o
theorem Kept.of {H H' : Hp} (s : Same H H') : Kept H H' := fun b o _ h => s b o h
theorem Kept.put {H : Hp} {D : Addr} {l : List V} {o : HO} (h : H D = some (.lst l)) : Kept H (upd H D o) := fun b u n e => by
  rw [upd_ne (fun z => by rw [z, h] at e; exact n l (Option.some.inj e).symm)]; exact e
section
variable {K : PySem.W.Frag} {a D : Addr} {xs : List V} {g : TG} {te : TE} {vs : List Nat} {σ : L2.St} {H1 : Hp} {Qd : Hp → Prop}
theorem compR_list (R : Nat → Hp → V → Prop) (mono : ∀ j H H' y, Kept H H' → R j H y → R j H' y) (hx : SqL K H1 a xs) (hD : H1 D = none) (hl : xs.length ≤ 1000)
    (hs : ∀ (i : Nat) (x : V) (H : Hp) (Nx : V → Hp → Prop), xs[i]? = some x → Same H1 H → (∀ H' y, Same H H' → R i H' y → Nx y H') → g x (wipe σ vs) H fun σ2 H2 => wipe σ2 vs = wipe σ vs ∧ te σ2 H2 Nx)
    (hd : ∀ H ys, Same H1 H → H D = some (.lst ys) → ys.length = xs.length → (∀ (j : Nat) y, ys[j]? = some y → R j H y) → Qd H) :
    ∃ W : Nat → Nat → Hp → Prop, (∃ m, W 0 m (upd H1 D (.lst []))) ∧ ∀ i m H, W i m H →
      ((Itl K a).stop i H ∧ Qd H) ∨ ((Itl K a).go i H ∧ ∃ Nx : Hp → Prop, (∀ H', Nx H' → ∃ m', m' < m ∧ W (i + 1) m' H') ∧ ∀ x H', (Itl K a).yld i H x H' → g x (wipe σ vs) H' fun σ2 H2 => wipe σ2 vs = wipe σ vs ∧ tYes σ2 H2 fun b H3 =>
        if b = true then te σ2 H3 fun y H4 => ∃ acc, H4 D = some (.lst acc) ∧ acc.length < sizeLine ∧ Nx (upd H4 D (.lst (acc ++ [y]))) else Nx H3) := by
  refine lc_list (xs := xs) (fun i H => Same H1 H ∧ ∃ ys, H D = some (.lst ys) ∧ ys.length = i ∧ ∀ (j : Nat) y, ys[j]? = some y → R j H y) ⟨same_new hD _, [], upd_same, rfl, fun j y h => by simp at h⟩ (fun i H _ h => h.1.seq hx) (fun i x H hix h => ?_) (fun H h => ?_)
  · obtain ⟨sm, ys, hy, hyl, hr⟩ := h
    have hi : i < xs.length := (List.getElem?_eq_some_iff.mp hix).1
    have := hs i x H (fun y H4 => ∃ acc, H4 D = some (.lst acc) ∧ acc.length < sizeLine ∧ (Same H1 (upd H4 D (.lst (acc ++ [y]))) ∧ ∃ ys, (upd H4 D (.lst (acc ++ [y]))) D = some (.lst ys) ∧ ys.length = i + 1 ∧ ∀ (j : Nat) z, ys[j]? = some z → R j (upd H4 D (.lst (acc ++ [y]))) z)) hix sm
      (fun H' y s' hR => by
        have hD' := s' _ _ hy
        refine ⟨ys, hD', small1000 (by omega), fun b o e => by rw [upd_ne (ne_of_none e hD)]; exact s' _ _ (sm b o e), ys ++ [y], upd_same, by rw [List.length_append, hyl]; rfl, fun j z hz => ?_⟩
        rcases Nat.lt_or_ge j ys.length with hj | hj
        · rw [List.getElem?_append_left hj] at hz
          exact mono _ _ _ _ (Kept.put hD') (mono _ _ _ _ (.of s') (hr j z hz))
        · rw [List.getElem?_append_right hj] at hz
          have hj2 : j - ys.length = 0 := by
            have := (List.getElem?_eq_some_iff.mp hz).1
            rw [List.length_singleton] at this; omega
          rw [hj2] at hz
          obtain rfl : y = z := Option.some.inj hz
          have hji : j = i := by omega
          rw [hji]
          exact mono _ _ _ _ (Kept.put hD') hR)
    exact this
  · obtain ⟨sm, ys, hy, hyl, hr⟩ := h
    exact hd H ys sm hy hyl hr
theorem compR_tup (R : Nat → Hp → V → Prop) (mono : ∀ j H H' y, Kept H H' → R j H y → R j H' y) (hx : SqT K H1 a xs) (hD : H1 D = none) (hl : xs.length ≤ 1000)
    (hs : ∀ (i : Nat) (x : V) (H : Hp) (Nx : V → Hp → Prop), xs[i]? = some x → Same H1 H → (∀ H' y, Same H H' → R i H' y → Nx y H') → g x (wipe σ vs) H fun σ2 H2 => wipe σ2 vs = wipe σ vs ∧ te σ2 H2 Nx)
    (hd : ∀ H ys, Same H1 H → H D = some (.lst ys) → ys.length = xs.length → (∀ (j : Nat) y, ys[j]? = some y → R j H y) → Qd H) :
    ∃ W : Nat → Nat → Hp → Prop, (∃ m, W 0 m (upd H1 D (.lst []))) ∧ ∀ i m H, W i m H →
      ((Itt K a).stop i H ∧ Qd H) ∨ ((Itt K a).go i H ∧ ∃ Nx : Hp → Prop, (∀ H', Nx H' → ∃ m', m' < m ∧ W (i + 1) m' H') ∧ ∀ x H', (Itt K a).yld i H x H' → g x (wipe σ vs) H' fun σ2 H2 => wipe σ2 vs = wipe σ vs ∧ tYes σ2 H2 fun b H3 =>
        if b = true then te σ2 H3 fun y H4 => ∃ acc, H4 D = some (.lst acc) ∧ acc.length < sizeLine ∧ Nx (upd H4 D (.lst (acc ++ [y]))) else Nx H3) := by
  refine lc_tup (xs := xs) (fun i H => Same H1 H ∧ ∃ ys, H D = some (.lst ys) ∧ ys.length = i ∧ ∀ (j : Nat) y, ys[j]? = some y → R j H y) ⟨same_new hD _, [], upd_same, rfl, fun j y h => by simp at h⟩ (fun i H _ h => Same.seqT h.1 hx) (fun i x H hix h => ?_) (fun H h => ?_)
  · obtain ⟨sm, ys, hy, hyl, hr⟩ := h
    have hi : i < xs.length := (List.getElem?_eq_some_iff.mp hix).1
    have := hs i x H (fun y H4 => ∃ acc, H4 D = some (.lst acc) ∧ acc.length < sizeLine ∧ (Same H1 (upd H4 D (.lst (acc ++ [y]))) ∧ ∃ ys, (upd H4 D (.lst (acc ++ [y]))) D = some (.lst ys) ∧ ys.length = i + 1 ∧ ∀ (j : Nat) z, ys[j]? = some z → R j (upd H4 D (.lst (acc ++ [y]))) z)) hix sm
      (fun H' y s' hR => by
        have hD' := s' _ _ hy
        refine ⟨ys, hD', small1000 (by omega), fun b o e => by rw [upd_ne (ne_of_none e hD)]; exact s' _ _ (sm b o e), ys ++ [y], upd_same, by rw [List.length_append, hyl]; rfl, fun j z hz => ?_⟩
        rcases Nat.lt_or_ge j ys.length with hj | hj
        · rw [List.getElem?_append_left hj] at hz
          exact mono _ _ _ _ (Kept.put hD') (mono _ _ _ _ (.of s') (hr j z hz))
        · rw [List.getElem?_append_right hj] at hz
          have hj2 : j - ys.length = 0 := by
            have := (List.getElem?_eq_some_iff.mp hz).1
            rw [List.length_singleton] at this; omega
          rw [hj2] at hz
          obtain rfl : y = z := Option.some.inj hz
          have hji : j = i := by omega
          rw [hji]
          exact mono _ _ _ _ (Kept.put hD') hR)
    exact this
  · obtain ⟨sm, ys, hy, hyl, hr⟩ := h
    exact hd H ys sm hy hyl hr
end
end KG

/-! what a piece of a program computes, as a plain function over data: data, environments, judgements -/
namespace DN
open PySem PySem.Spec PyProof.Rows L2 KG
/-- data; num: an object of the class Number, its two fields -/
inductive D where
  | non | bl (b : Bool) | int (i : Int) | str (x : Str) | tup (ds : List D) | lst (ds : List D) | num (t e : D) | ref (i : Nat)
mutual
inductive Rp (C : Addr) (A : List Addr) (G : Hp) : V → D → Prop
  | non : Rp C A G .non .non
  | bl (b : Bool) : Rp C A G (.bl b) (.bl b)
  | int (i : Int) : Rp C A G (.int i) (.int i)
  | str (x : Str) : Rp C A G (.str x) (.str x)
  | tup {a : Addr} {vs : List V} {ds : List D} : G a = some (.tup vs) → RpAll C A G vs ds → Rp C A G (.ref a) (.tup ds)
  | lst {a : Addr} {vs : List V} {ds : List D} : G a = some (.lst vs) → RpAll C A G vs ds → Rp C A G (.ref a) (.lst ds)
  | num {a dx : Addr} {vt ve : V} {t e : D} : G a = some (.ins C dx [("tower", vt), ("element", ve)]) → Rp C A G vt t → Rp C A G ve e → Rp C A G (.ref a) (.num t e)
  | ref {i : Nat} {a : Addr} : A[i]? = some a → Rp C A G (.ref a) (.ref i)
inductive RpAll (C : Addr) (A : List Addr) (G : Hp) : List V → List D → Prop
  | nil : RpAll C A G [] []
  | cons {v : V} {vs : List V} {d : D} {ds : List D} : Rp C A G v d → RpAll C A G vs ds → RpAll C A G (v :: vs) (d :: ds)
end
section
variable {C : Addr} {A : List Addr} {G G' : Hp}
mutual
theorem Rp.mono (s : Same G G') : ∀ {d : D} {v : V}, Rp C A G v d → Rp C A G' v d
  | .non, _, h => by cases h; exact .non
  | .bl b, _, h => by cases h; exact .bl b
  | .int i, _, h => by cases h; exact .int i
  | .str x, _, h => by cases h; exact .str x
  | .tup ds, _, h => by cases h with | tup e r => exact .tup (s _ _ e) (RpAll.mono s r)
  | .lst ds, _, h => by cases h with | lst e r => exact .lst (s _ _ e) (RpAll.mono s r)
  | .num t e, _, h => by cases h with | num e1 r1 r2 => exact .num (s _ _ e1) (Rp.mono s r1) (Rp.mono s r2)
  | .ref i, _, h => by cases h with | ref e => exact .ref e
theorem RpAll.mono (s : Same G G') : ∀ {ds : List D} {vs : List V}, RpAll C A G vs ds → RpAll C A G' vs ds
  | [], _, h => by cases h; exact .nil
  | d :: ds, _, h => by cases h with | cons r1 r2 => exact .cons (Rp.mono s r1) (RpAll.mono s r2)
end
theorem RpAll.len : ∀ {ds : List D} {vs : List V}, RpAll C A G vs ds → vs.length = ds.length
  | [], _, h => by cases h; rfl
  | d :: ds, _, h => by cases h with | cons r1 r2 => rw [List.length_cons, List.length_cons, RpAll.len r2]
theorem RpAll.get : ∀ {ds : List D} {vs : List V} {i : Nat} {d : D}, RpAll C A G vs ds → ds[i]? = some d → ∃ v, vs[i]? = some v ∧ Rp C A G v d
  | [], _, _, _, h, e => by simp at e
  | d :: ds, _, 0, _, h, e => by cases h with | cons r1 r2 => simp at e; subst e; exact ⟨_, rfl, r1⟩
  | d :: ds, _, i + 1, _, h, e => by
    cases h with
    | cons r1 r2 =>
      obtain ⟨v, h1, h2⟩ := RpAll.get (i := i) r2 (by simpa using e)
      exact ⟨v, by simpa using h1, h2⟩
theorem RpAll.append : ∀ {ds es : List D} {vs us : List V}, RpAll C A G vs ds → RpAll C A G us es → RpAll C A G (vs ++ us) (ds ++ es)
  | [], _, _, _, h, k => by cases h; exact k
  | d :: ds, _, _, _, h, k => by cases h with | cons r1 r2 => exact .cons r1 (RpAll.append r2 k)
theorem RpAll.take (n : Nat) : ∀ {ds : List D} {vs : List V}, RpAll C A G vs ds → RpAll C A G (vs.take n) (ds.take n) := by
  induction n with
  | zero => intro _ _ _; exact .nil
  | succ n ih =>
    intro ds vs h
    cases h with
    | nil => exact .nil
    | cons r1 r2 => exact .cons r1 (ih r2)
theorem RpAll.drop (n : Nat) : ∀ {ds : List D} {vs : List V}, RpAll C A G vs ds → RpAll C A G (vs.drop n) (ds.drop n) := by
  induction n with
  | zero => intro _ _ h; exact h
  | succ n ih =>
    intro ds vs h
    cases h with
    | nil => exact .nil
    | cons r1 r2 => exact ih r2
theorem RpAll.reverse : ∀ {ds : List D} {vs : List V}, RpAll C A G vs ds → RpAll C A G vs.reverse ds.reverse
  | [], _, h => by cases h; exact .nil
  | d :: ds, _, h => by
    cases h with
    | cons r1 r2 => rw [List.reverse_cons, List.reverse_cons]; exact (RpAll.reverse r2).append (.cons r1 .nil)
theorem RpAll.set {v : V} {d : D} (r : Rp C A G v d) : ∀ {ds : List D} {vs : List V} (i : Nat), RpAll C A G vs ds → RpAll C A G (vs.set i v) (ds.set i d)
  | [], _, _, h => by cases h; exact .nil
  | e :: ds, _, 0, h => by cases h with | cons r1 r2 => exact .cons r r2
  | e :: ds, _, i + 1, h => by cases h with | cons r1 r2 => exact .cons r1 (RpAll.set r i r2)
theorem RpAll.rep {vs : List V} {ds : List D} (h : RpAll C A G vs ds) : ∀ k : Nat, RpAll C A G (List.replicate k vs).flatten (List.replicate k ds).flatten
  | 0 => .nil
  | k + 1 => by rw [List.replicate_succ, List.replicate_succ, List.flatten_cons, List.flatten_cons]; exact h.append (RpAll.rep h k)
theorem RpAll.dropLast {vs : List V} {ds : List D} (h : RpAll C A G vs ds) : RpAll C A G vs.dropLast ds.dropLast := by
  rw [List.dropLast_eq_take, List.dropLast_eq_take, h.len]; exact h.take _
end
/-- G: what stands for good within H. From (G, H) to (G', H'): nothing is lost, and what stands for good anew is new -/
structure Ext (G H G' H' : Hp) : Prop where
  g : Same G G'
  s : Same G' H'
  h : Same H H'
  f : ∀ b o, H b = some o → G b = none → G' b = none
theorem Ext.refl {G H : Hp} (s : Same G H) : Ext G H G H := ⟨fun _ _ h => h, s, fun _ _ h => h, fun _ _ _ h => h⟩
theorem Ext.trans {G H G1 H1 G2 H2 : Hp} (a : Ext G H G1 H1) (b : Ext G1 H1 G2 H2) : Ext G H G2 H2 :=
  ⟨a.g.trans b.g, b.s, a.h.trans b.h, fun c o h n => b.f c o (a.h c o h) (a.f c o h n)⟩
/-- a new object that stands for good -/
theorem Ext.new {G H : Hp} {p : Addr} (s : Same G H) (n : H p = none) (o : HO) : Ext G H (upd G p o) (upd H p o) := by
  have ng : G p = none := by
    cases e : G p with
    | none => rfl
    | some u => rw [s _ _ e] at n; cases n
  refine ⟨same_new ng o, same_upd s p o, same_new n o, fun b u h g => ?_⟩
  rw [upd_ne (ne_of_none h n)]; exact g
/-- a new object that may change -/
theorem Ext.lay {G H : Hp} {p : Addr} (s : Same G H) (n : H p = none) (o : HO) : Ext G H G (upd H p o) :=
  ⟨fun _ _ h => h, s.trans (same_new n o), same_new n o, fun _ _ _ g => g⟩
/-- where the cells stand -/
def Cel (A : List Addr) (G H : Hp) : Prop := ∀ a ∈ A, (∃ o, H a = some o) ∧ G a = none
theorem Cel.ext {A : List Addr} {G H G' H' : Hp} (c : Cel A G H) (x : Ext G H G' H') : Cel A G' H' := fun a ha => by
  obtain ⟨⟨o, h1⟩, h2⟩ := c a ha
  exact ⟨⟨o, x.h _ _ h1⟩, x.f _ _ h1 h2⟩
inductive Sl where
  | off | val (d : D) | own (ds : List D)
/-- what stands in the slots. own: a list of the def's own that may still grow -/
structure En (C : Addr) (A : List Addr) (H0 G H : Hp) (σ : L2.St) (ρ : List Sl) : Prop where
  len : σ.length = ρ.length
  val : ∀ (i : Nat) (d : D), ρ[i]? = some (Sl.val d) → ∃ v, σ[i]? = some (some v) ∧ Rp C A G v d
  own : ∀ (i : Nat) (ds : List D), ρ[i]? = some (Sl.own ds) → ∃ a vs, σ[i]? = some (some (.ref a)) ∧ H a = some (.lst vs) ∧ G a = none ∧ H0 a = none ∧ RpAll C A G vs ds ∧ a ∉ A
  sep : ∀ (i j : Nat) (di dj : List D) (a : Addr), ρ[i]? = some (Sl.own di) → ρ[j]? = some (Sl.own dj) → σ[i]? = some (some (.ref a)) → σ[j]? = some (some (.ref a)) → i = j
  cel : Cel A G H
theorem En.ext {C : Addr} {A : List Addr} {H0 G H G' H' : Hp} {σ : L2.St} {ρ : List Sl} (e : En C A H0 G H σ ρ) (x : Ext G H G' H') : En C A H0 G' H' σ ρ := by
  refine ⟨e.len, fun i d h => ?_, fun i ds h => ?_, e.sep, fun a ha => ?_⟩
  · obtain ⟨v, h1, h2⟩ := e.val i d h
    exact ⟨v, h1, h2.mono x.g⟩
  · obtain ⟨a, vs, h1, h2, h3, h4, h5, h6⟩ := e.own i ds h
    exact ⟨a, vs, h1, x.h _ _ h2, x.f _ _ h2 h3, h4, h5.mono x.g, h6⟩
  · obtain ⟨⟨o, h1⟩, h2⟩ := e.cel a ha
    exact ⟨⟨o, x.h _ _ h1⟩, x.f _ _ h1 h2⟩
theorem set_get {α : Type} {l : List α} {i j : Nat} {x y : α} (h : (l.set i x)[j]? = some y) : (j = i ∧ y = x ∧ i < l.length) ∨ (j ≠ i ∧ l[j]? = some y) := by
  by_cases e : j = i
  · subst e
    have hl : j < l.length := by
      have := (List.getElem?_eq_some_iff.mp h).1
      rwa [List.length_set] at this
    rw [List.getElem?_set_self hl] at h
    exact .inl ⟨rfl, (Option.some.inj h).symm, hl⟩
  · rw [List.getElem?_set_ne (Ne.symm e)] at h
    exact .inr ⟨e, h⟩
/-- a slot is stored -/
theorem En.put {C : Addr} {A : List Addr} {H0 G H : Hp} {σ : L2.St} {ρ : List Sl} {v : V} {d : D} (e : En C A H0 G H σ ρ) (i : Nat) (r : Rp C A G v d) : En C A H0 G H (σ.set i (some v)) (ρ.set i (Sl.val d)) := by
  refine ⟨by rw [List.length_set, List.length_set, e.len], fun j x h => ?_, fun j x h => ?_, fun j k x y a h1 h2 h3 h4 => ?_, e.cel⟩
  · rcases set_get h with ⟨rfl, h, hl⟩ | ⟨ne, h⟩
    · cases h; exact ⟨v, List.getElem?_set_self (by rw [e.len]; exact hl), r⟩
    · rw [List.getElem?_set_ne (Ne.symm ne)]; exact e.val j x h
  · rcases set_get h with ⟨rfl, h, hl⟩ | ⟨ne, h⟩
    · cases h
    · rw [List.getElem?_set_ne (Ne.symm ne)]; exact e.own j x h
  · rcases set_get h1 with ⟨rfl, h, hl⟩ | ⟨ne, h1⟩
    · cases h
    rcases set_get h2 with ⟨rfl, h, hl⟩ | ⟨ne2, h2⟩
    · cases h
    rw [List.getElem?_set_ne (Ne.symm ne)] at h3
    rw [List.getElem?_set_ne (Ne.symm ne2)] at h4
    exact e.sep j k x y a h1 h2 h3 h4
/-- a slot is stored with a new list of one's own -/
theorem En.putOwn {C : Addr} {A : List Addr} {H0 G H : Hp} {σ : L2.St} {ρ : List Sl} {a : Addr} {vs : List V} {ds : List D} (e : En C A H0 G H σ ρ) (i : Nat) (n : H a = none) (n0 : H0 a = none) (s : Same G H) (r : RpAll C A G vs ds) :
    En C A H0 G (upd H a (.lst vs)) (σ.set i (some (V.ref a))) (ρ.set i (Sl.own ds)) := by
  have e' := e.ext (Ext.lay s n (.lst vs))
  have ng : G a = none := by
    cases q : G a with
    | none => rfl
    | some u => rw [s _ _ q] at n; cases n
  have na : a ∉ A := fun z => by
    obtain ⟨⟨o, h1⟩, _⟩ := e.cel a z
    rw [n] at h1; cases h1
  have apart : ∀ j x, ρ[j]? = some (Sl.own x) → σ[j]? ≠ some (some (V.ref a)) := fun j x h z => by
    obtain ⟨b, us, h1, h2, _⟩ := e.own j x h
    rw [z] at h1; cases h1
    rw [n] at h2; cases h2
  refine ⟨by rw [List.length_set, List.length_set, e.len], fun j x h => ?_, fun j x h => ?_, fun j k x y b h1 h2 h3 h4 => ?_, e'.cel⟩
  · rcases set_get h with ⟨rfl, h, hl⟩ | ⟨ne, h⟩
    · cases h
    · rw [List.getElem?_set_ne (Ne.symm ne)]; exact e'.val j x h
  · rcases set_get h with ⟨rfl, h, hl⟩ | ⟨ne, h⟩
    · cases h; exact ⟨a, vs, List.getElem?_set_self (by rw [e.len]; exact hl), upd_same, ng, n0, r, na⟩
    · rw [List.getElem?_set_ne (Ne.symm ne)]; exact e'.own j x h
  · rcases set_get h1 with ⟨rfl, q1, hl1⟩ | ⟨ne1, q1⟩
    · rcases set_get h2 with ⟨rfl, q2, hl2⟩ | ⟨ne2, q2⟩
      · rfl
      · rw [List.getElem?_set_self (by rw [e.len]; exact hl1)] at h3
        cases h3
        rw [List.getElem?_set_ne (Ne.symm ne2)] at h4
        exact absurd h4 (apart k y q2)
    · rcases set_get h2 with ⟨rfl, q2, hl2⟩ | ⟨ne2, q2⟩
      · rw [List.getElem?_set_self (by rw [e.len]; exact hl2)] at h4
        cases h4
        rw [List.getElem?_set_ne (Ne.symm ne1)] at h3
        exact absurd h3 (apart j x q1)
      · rw [List.getElem?_set_ne (Ne.symm ne1)] at h3
        rw [List.getElem?_set_ne (Ne.symm ne2)] at h4
        exact e.sep j k x y b q1 q2 h3 h4
/-- one's own list at slot i changes -/
theorem En.grow {C : Addr} {A : List Addr} {H0 G H : Hp} {σ : L2.St} {ρ : List Sl} {a : Addr} {us : List V} {ds es : List D} (e : En C A H0 G H σ ρ) {i : Nat} (h : ρ[i]? = some (Sl.own ds)) (ha : σ[i]? = some (some (.ref a))) (r : RpAll C A G us es) :
    En C A H0 G (upd H a (.lst us)) σ (ρ.set i (Sl.own es)) := by
  obtain ⟨b, vs, h1, h2, h3, h4, h5, h6⟩ := e.own i ds h
  rw [ha] at h1; cases h1
  refine ⟨by rw [List.length_set, e.len], fun j x q => ?_, fun j x q => ?_, fun j k x y c q1 q2 q3 q4 => ?_, fun c hc => ?_⟩
  · rcases set_get q with ⟨rfl, z, hl⟩ | ⟨ne, q⟩
    · cases z
    · exact e.val j x q
  · rcases set_get q with ⟨rfl, z, hl⟩ | ⟨ne, q⟩
    · cases z; exact ⟨a, us, ha, upd_same, h3, h4, r, h6⟩
    · obtain ⟨c, ws, p1, p2, p3, p4, p5⟩ := e.own j x q
      have nc : c ≠ a := fun z => by subst z; exact ne (e.sep j i x ds c q h p1 ha)
      exact ⟨c, ws, p1, by rw [upd_ne nc]; exact p2, p3, p4, p5⟩
  · have own_of : ∀ {j : Nat} {x : List D}, (ρ.set i (Sl.own es))[j]? = some (Sl.own x) → ∃ x', ρ[j]? = some (Sl.own x') := fun {j x} q => by
      rcases set_get q with ⟨rfl, z, hl⟩ | ⟨ne, q⟩
      · exact ⟨_, h⟩
      · exact ⟨_, q⟩
    obtain ⟨x', q1⟩ := own_of q1
    obtain ⟨y', q2⟩ := own_of q2
    exact e.sep j k x' y' c q1 q2 q3 q4
  · obtain ⟨⟨o, k1⟩, k2⟩ := e.cel c hc
    exact ⟨⟨o, by rw [upd_ne (fun z => by subst z; exact h6 hc)]; exact k1⟩, k2⟩
/-- one's own list at slot i stands for good from here on -/
theorem En.freeze {C : Addr} {A : List Addr} {H0 G H : Hp} {σ : L2.St} {ρ : List Sl} {a : Addr} {vs : List V} {ds : List D} (e : En C A H0 G H σ ρ) (sm : Same G H) {i : Nat} (h : ρ[i]? = some (Sl.own ds)) (ha : σ[i]? = some (some (.ref a))) (hv : H a = some (.lst vs)) (r : RpAll C A G vs ds) :
    En C A H0 (upd G a (.lst vs)) H σ (ρ.set i (Sl.val (.lst ds))) ∧ Same G (upd G a (.lst vs)) ∧ Same (upd G a (.lst vs)) H := by
  obtain ⟨b, us, h1, h2, h3, h4, h5, h6⟩ := e.own i ds h
  rw [ha] at h1; cases h1
  have sg : Same G (upd G a (.lst vs)) := same_new h3 _
  refine ⟨⟨by rw [List.length_set, e.len], fun j x q => ?_, fun j x q => ?_, fun j k x y c q1 q2 q3 q4 => ?_, fun c hc => ?_⟩, sg, fun c o q => ?_⟩
  · rcases set_get q with ⟨rfl, z, hl⟩ | ⟨ne, q⟩
    · cases z; exact ⟨.ref a, ha, .lst upd_same (r.mono sg)⟩
    · obtain ⟨v, p1, p2⟩ := e.val j x q
      exact ⟨v, p1, p2.mono sg⟩
  · rcases set_get q with ⟨rfl, z, hl⟩ | ⟨ne, q⟩
    · cases z
    · obtain ⟨c, ws, p1, p2, p3, p4, p5, p6⟩ := e.own j x q
      have nc : c ≠ a := fun z => by subst z; exact ne (e.sep j i x ds c q h p1 ha)
      exact ⟨c, ws, p1, p2, by rw [upd_ne nc]; exact p3, p4, p5.mono sg, p6⟩
  · have own_of : ∀ {j : Nat} {x : List D}, (ρ.set i (Sl.val (.lst ds)))[j]? = some (Sl.own x) → ∃ x', ρ[j]? = some (Sl.own x') := fun {j x} q => by
      rcases set_get q with ⟨rfl, z, hl⟩ | ⟨ne, q⟩
      · cases z
      · exact ⟨_, q⟩
    obtain ⟨x', q1⟩ := own_of q1
    obtain ⟨y', q2⟩ := own_of q2
    exact e.sep j k x' y' c q1 q2 q3 q4
  · obtain ⟨k1, k2⟩ := e.cel c hc
    exact ⟨k1, by rw [upd_ne (fun z => by subst z; exact h6 hc)]; exact k2⟩
  · by_cases z : c = a
    · subst z; rw [upd_same] at q; cases q; exact hv
    · rw [upd_ne z] at q; exact sm c o q
/-- the slots of a comprehension's own names forgotten -/
def wipeD (ρ : List Sl) : List Nat → List Sl
  | [] => ρ
  | v :: vs => (wipeD ρ vs).set v Sl.off
theorem En.off {C : Addr} {A : List Addr} {H0 G H : Hp} {σ : L2.St} {ρ : List Sl} (e : En C A H0 G H σ ρ) (i : Nat) : En C A H0 G H (σ.set i none) (ρ.set i Sl.off) := by
  refine ⟨by rw [List.length_set, List.length_set, e.len], fun j x h => ?_, fun j x h => ?_, fun j k x y a h1 h2 h3 h4 => ?_, e.cel⟩
  · rcases set_get h with ⟨rfl, h, hl⟩ | ⟨ne, h⟩
    · cases h
    · rw [List.getElem?_set_ne (Ne.symm ne)]; exact e.val j x h
  · rcases set_get h with ⟨rfl, h, hl⟩ | ⟨ne, h⟩
    · cases h
    · rw [List.getElem?_set_ne (Ne.symm ne)]; exact e.own j x h
  · rcases set_get h1 with ⟨rfl, h, hl⟩ | ⟨ne, h1⟩
    · cases h
    rcases set_get h2 with ⟨rfl, h, hl⟩ | ⟨ne2, h2⟩
    · cases h
    rw [List.getElem?_set_ne (Ne.symm ne)] at h3
    rw [List.getElem?_set_ne (Ne.symm ne2)] at h4
    exact e.sep j k x y a h1 h2 h3 h4
theorem En.wipe {C : Addr} {A : List Addr} {H0 G H : Hp} {σ : L2.St} {ρ : List Sl} (e : En C A H0 G H σ ρ) : ∀ vs : List Nat, En C A H0 G H (wipe σ vs) (wipeD ρ vs)
  | [] => e
  | v :: vs => (En.wipe e vs).off v
/-! ### what is computed, as a reading -/
/-- den: the plain function; rep: how its value stands -/
def tX {α β : Type} (C : Addr) (rep : List Addr → Hp → β → α → Prop) (den : List Sl → Option α) : L2.St → Hp → (β → Hp → Prop) → Prop := fun σ H Q =>
  ∃ A H0 G ρ d, En C A H0 G H σ ρ ∧ Same G H ∧ den ρ = some d ∧ ∀ G' H' v, Ext G H G' H' → rep A G' v d → Q v H'
def eqR {α : Type} : List Addr → Hp → α → α → Prop := fun _ _ v d => v = d
abbrev tD (C : Addr) (den : List Sl → Option D) : TE := tX C (Rp C) den
abbrev tA (C : Addr) (den : List Sl → Option (List D)) : TA := tX C (RpAll C) den
abbrev tB (C : Addr) (den : List Sl → Option Bool) : TT := tX C eqR den
abbrev tP (C : Addr) (den : List Sl → Option (Option Int)) : TO := tX C eqR den
inductive Out where
  | nx (ρ : List Sl) | rt (d : D) | bk (ρ : List Sl) | ct (ρ : List Sl)
def Fin (C : Addr) (A : List Addr) (G0 H0 Gs : Hp) (E : Ends) : Out → Prop
  | .nx ρ => ∀ G H σ, Same Gs G → Ext G0 H0 G H → En C A H0 G H σ ρ → E.nx σ H
  | .rt d => ∀ G H v, Ext G0 H0 G H → Rp C A G v d → E.rt v H
  | .bk ρ => ∀ G H σ, Same Gs G → Ext G0 H0 G H → En C A H0 G H σ ρ → E.bk σ H
  | .ct ρ => ∀ G H σ, Same Gs G → Ext G0 H0 G H → En C A H0 G H σ ρ → E.ct σ H
theorem Fin.mono {C : Addr} {A : List Addr} {G0 H0 Gs Gt : Hp} {E : Ends} (s : Same Gs Gt) : ∀ {o : Out}, Fin C A G0 H0 Gs E o → Fin C A G0 H0 Gt E o
  | .nx _, h => fun G H σ s2 => h G H σ (s.trans s2)
  | .rt _, h => h
  | .bk _, h => fun G H σ s2 => h G H σ (s.trans s2)
  | .ct _, h => fun G H σ s2 => h G H σ (s.trans s2)
def tS (C : Addr) (den : List Sl → Option Out) : TS := fun E σ H => ∃ A G0 H0 G ρ o, Ext G0 H0 G H ∧ En C A H0 G H σ ρ ∧ den ρ = some o ∧ Fin C A G0 H0 G E o
/-- a target; is: the slots that it stores -/
def tG (C : Addr) (is : List Nat) (den : D → List Sl → Option (List Sl)) : TG := fun v σ H Q =>
  ∃ A H0 G ρ d ρ', En C A H0 G H σ ρ ∧ Same G H ∧ Rp C A G v d ∧ den d ρ = some ρ' ∧ ∀ σ' G' H', Ext G H G' H' → En C A H0 G' H' σ' ρ' → (∀ vs : List Nat, (∀ i ∈ is, i ∈ vs) → wipe σ' vs = wipe σ vs) → Q σ' H'
def tGs (C : Addr) (is : List Nat) (den : List D → List Sl → Option (List Sl)) : TGs := fun vs σ H Q =>
  ∃ A H0 G ρ ds ρ', En C A H0 G H σ ρ ∧ Same G H ∧ RpAll C A G vs ds ∧ den ds ρ = some ρ' ∧ ∀ σ' G' H', Ext G H G' H' → En C A H0 G' H' σ' ρ' → (∀ vs : List Nat, (∀ i ∈ is, i ∈ vs) → wipe σ' vs = wipe σ vs) → Q σ' H'
/-- an iterator that gives ds -/
def Wk (C : Addr) (A : List Addr) (J : It) (G : Hp) (ds : List D) : Prop := ∀ i G2 H2, Same G G2 → Same G2 H2 → (i = ds.length → J.stop i H2) ∧
  (∀ d, ds[i]? = some d → J.go i H2 ∧ ∀ x H3, J.yld i H2 x H3 → ∃ G3, Ext G2 H2 G3 H3 ∧ Rp C A G3 x d)
def tI (C : Addr) (den : List Sl → Option (List D)) : TI := fun σ H R =>
  ∃ A H0 G ρ ds, En C A H0 G H σ ρ ∧ Same G H ∧ den ρ = some ds ∧ ∀ J G' H', Ext G H G' H' → Wk C A J G' ds → R J H'
/-! ### a weaker reading -/
section
variable {X : Cx}
theorem pe_to {e : Expr} {t t' : TE} (h : PE X e t) (k : ∀ σ H Q, t' σ H Q → t σ H Q) : PE X e t' := ⟨fun pins s σ H Q I hw => h.run pins s σ H Q I (k _ _ _ hw)⟩
theorem pt_to {e : Expr} {t t' : TT} (h : PT X e t) (k : ∀ σ H Q, t' σ H Q → t σ H Q) : PT X e t' := ⟨fun pins s σ H Q I hw => h.run pins s σ H Q I (k _ _ _ hw)⟩
theorem pw_to {e : Expr} {t t' : TT} (h : PW X e t) (k : ∀ σ H Q, t' σ H Q → t σ H Q) : PW X e t' := ⟨fun wh pins s σ H Q I hw => h.run wh pins s σ H Q I (k _ _ _ hw)⟩
theorem pa_to {es : List Expr} {t t' : TA} (h : PA X es t) (k : ∀ σ H Q, t' σ H Q → t σ H Q) : PA X es t' := ⟨fun pos pins s σ H Q I hw => h.run pos pins s σ H Q I (k _ _ _ hw)⟩
theorem po_to {e : Option Expr} {t t' : TO} (h : PO X e t) (k : ∀ σ H Q, t' σ H Q → t σ H Q) : PO X e t' := ⟨fun pins s σ H Q I hw => h.run pins s σ H Q I (k _ _ _ hw)⟩
theorem ps_to {st : Stmt} {t t' : TS} (h : PS X st t) (k : ∀ D σ H, t' D σ H → t D σ H) : PS X st t' := ⟨fun pins s σ H D I hw => h.run pins s σ H D I (k _ _ _ hw)⟩
theorem pss_to {sts : List Stmt} {t t' : TS} (h : PSs X sts t) (k : ∀ D σ H, t' D σ H → t D σ H) : PSs X sts t' := ⟨fun pins s σ H D I hw => h.run pins s σ H D I (k _ _ _ hw)⟩
theorem pg_to {tg : Expr} {t t' : TG} (h : PG X tg t) (k : ∀ v σ H Q, t' v σ H Q → t v σ H Q) : PG X tg t' := ⟨fun pins s σ H v u Q I r hw => h.run pins s σ H v u Q I r (k _ _ _ _ hw)⟩
theorem pgs_to {ts : List Expr} {t t' : TGs} (h : PGs X ts t) (k : ∀ v σ H Q, t' v σ H Q → t v σ H Q) : PGs X ts t' := ⟨fun pins s σ H vs us Q I r hw => h.run pins s σ H vs us Q I r (k _ _ _ _ hw)⟩
theorem pi_to {tg it : Expr} {t t' : TI} (h : PI X tg it t) (k : ∀ σ H R, t' σ H R → t σ H R) : PI X tg it t' := ⟨fun pins s σ H R I hw => h.run pins s σ H R I (k _ _ _ hw)⟩
end
end DN

set_option maxHeartbeats 4000000
/-! tuple * 0 -/
namespace KG
open PySem PySem.Spec PyProof.Rows L2
theorem tuple_mul0 (l : Addr) (items : Array Value) (n : Nat) (dd : Option Addr) (sl : Array (Option Value)) (u : Tok) (c0 : (decide ((0 : Int) < -(2 ^ 63)) || decide ((0 : Int) ≥ 2 ^ 63)) = false) (c1 : (items.isEmpty || (0 : Int) == 1) = false) (c2 : (decide ((0 : Int) ≤ 0) || items.isEmpty) = true) (hsz : (#[] : Array Value).size ≤ sizeLine) :
    Meets (Builtin.«tuple.__mul__» ⟨[.ref l, .int 0 u], []⟩) (fun _ R s => s.heap.get? l = some { cls := .type "tuple", dict := dd, data := .seq items n, slots := sl } ∧
      R (.ok (.ret (Value.ref s.heap.objs.size))) { s with heap := s.heap.push { cls := Value.type "tuple", data := Data.seq #[] }, toks := s.toks }) :=
  .of_wp fun prog w A R s h => by
    obtain ⟨hp0, g0, d0, tk0, os0⟩ := s
    obtain ⟨hl, h⟩ := h
    have f1 := AutoSeq1.idx_int
    wp_walk using wpAny_loadPart' hl
    repeat (first | (refine wpAny_ite_false (decide_eq_false (by rw [c0]; exact Bool.false_ne_true)) ?_; wp_walk using wpAny_loadPart' hl) | (refine wpAny_ite_false (decide_eq_false (by rw [c1]; exact Bool.false_ne_true)) ?_; wp_walk using wpAny_loadPart' hl) | (refine wpAny_ite_true (decide_eq_true c2) ?_; wp_walk using wpAny_loadPart' hl) | (refine wpAny_ite_false (decide_eq_false (Nat.not_lt.mpr hsz)) ?_; wp_walk using wpAny_loadPart' hl))
    exact ⟨_, rfl, h⟩
def rRep0 (K : PySem.W.Frag) : R2 := fun x y H Q => ∃ l xs, x = .ref l ∧ y = .int 0 ∧ SqT K H l xs ∧ xs ≠ [] ∧ ∀ p, H p = none → Q (.ref p) (upd H p (.tup []))
theorem op_rep0 {X : Cx} : OpR X (binaryOp .Mult) (rRep0 X.K) := by
  intro pins s σ H x y v u Q I rx ry h
  obtain ⟨l, xs, rfl, rfl, hT, hne, q⟩ := h
  cases rx
  obtain ⟨t, rfl⟩ := ry
  obtain ⟨its, r, ⟨⟨cl0, dd, dt0, sl⟩, ho, hc, n, hd⟩, hsz0⟩ := I.tuple hT
  simp only at hc hd
  subst hc hd
  have hLen : its.length = xs.length := r.length.symm
  have hi : its.toArray.isEmpty = false := by
    cases its with
    | nil => exact absurd (List.eq_nil_of_length_eq_zero hLen.symm) hne
    | cons a b => rfl
  refine wpAny_binaryOp_repeat_ref (T := "tuple") (U := "int") (by decide) ⟨_, ho, rfl⟩ (fun s' => typeIs_int s' 0 t) noFill_tuple_mul F.fills_int_mul F.slot_int_rmul repeat_tuple F.slot_int_index.lookup
    (call_meets F.slot_int_rmul (typeIs_int s 0 t) F.entry_int_rmul (F.args_int_rmul_2 _ _) (int_rmul_tuple 0 t l its.toArray n dd sl)
      ⟨ho, rfl, ⟨_, ho, rfl⟩, call_meets F.slot_tuple_mul ⟨_, ho, rfl⟩ F.entry_tuple_mul (F.args_tuple_mul_2 _ _) (tuple_mul0 l its.toArray n dd sl t (by decide) (by rw [hi]; decide) (by rw [hi]; decide) (by show 0 ≤ sizeLine; decide)) ⟨ho, ?_⟩⟩)
  refine ⟨.ref s.heap.objs.size, _, I.laid (t' := s.toks) (o := .tup []) (fun b ob q => Heap.get?_push_of_some _ q) (Nat.le_refl _) ?_, rfl, q _ (I.hok.fresh (Nat.le_refl _))⟩
  exact ⟨by show 0 ≤ sizeLine; decide, [], .nil, IsTup.new _ _⟩
end KG

/-! enumerate of a tuple -/
namespace KG
open PySem PySem.Spec PyProof.Rows L2
set_option maxHeartbeats 1000000 in
theorem enum_new1 {v : Value} {o : Obj} {Hq : Heap → Prop} (B : Begins v o Hq) : Meets (Builtin.«enumerate.__new__» ⟨[.type "enumerate", v], []⟩) (fun _ R s => Hq s.heap ∧ R (.ok (.ret (.ref (s.heap.push o).objs.size))) { s with heap := (s.heap.push o).push { cls := .type "enumerate", data := .fields #[.none, .bool false, .ref s.heap.objs.size, rawInt 0, .none, .none] } }) :=
  .of_wp fun prog w A R s h => by
    obtain ⟨hp, g, d, tk, os⟩ := s
    obtain ⟨h1, h⟩ := h
    have isub := sub_enumerate
    have q1 : ∀ {A' : Around} {E : Value → Shared → Prop} {Q : Value → Shared → Prop}, Q (.ref hp.objs.size) ⟨hp.push o, g, d, tk, os⟩ → wpAny (model prog w) A' (pyIter v) Q E ⟨hp, g, d, tk, os⟩ := fun q => B.iter prog w _ _ ⟨hp, g, d, tk, os⟩ _ h1 q
    wp_walk using q1
    refine wpAny_stack_any fun st => wpAny_pure ?_
    split
    · rename_i c _ _ _ _ _
      cases (c == Value.type "enumerate") <;> (wp_walk using q1; exact ⟨_, rfl, h⟩)
    · wp_walk using q1; exact ⟨_, rfl, h⟩
theorem call_enum1 {prog : Program} {w : World} {A : Around} {E : Value → Shared → Prop} {s : Shared} {v : Value} {o : Obj} {Hq : Heap → Prop} {Q : Value → Shared → Prop} (B : Begins v o Hq) (h1 : Hq s.heap)
    (h : ∀ h', IsEnum h' (s.heap.objs.size + 1) s.heap.objs.size 0 .none → h'.get? s.heap.objs.size = some o → (∀ b u, s.heap.get? b = some u → h'.get? b = some u) → Q (.ref (s.heap.objs.size + 1)) { s with heap := h' }) : wpAny (model prog w) A (call (.type "enumerate") [v]) Q E s := by
  refine callType_new F.called_enumerate (by decide) (F.typeCall_enumerate_1 _) (F.newCall_enumerate_1 _) (fun obj => F.args_object_init_2 obj _) F.entry_enumerate_new (enum_new1 B) ⟨h1, ?_⟩
  have hz : (s.heap.push o).objs.size = s.heap.objs.size + 1 := Heap.size_push ..
  show _ ∧ _
  rw [hz]
  have he : IsEnum ((s.heap.push o).push { cls := .type "enumerate", data := .fields #[.none, .bool false, .ref s.heap.objs.size, rawInt 0, .none, .none] }) (s.heap.objs.size + 1) s.heap.objs.size 0 .none := by
    have e := Heap.get?_push_size (s.heap.push o) (o := { cls := .type "enumerate", data := .fields #[.none, .bool false, .ref s.heap.objs.size, rawInt 0, .none, .none] }) rfl
    rwa [hz] at e
  exact ⟨⟨_, he, rfl⟩, h _ he (Heap.get?_push_of_some _ (Heap.get?_push_size _ B.free)) fun b u x => Heap.get?_push_of_some _ (Heap.get?_push_of_some _ x)⟩
/-- the tuple at a as it stands at each turn, each item in a new pair with its place -/
def IteT (K : PySem.W.Frag) (a : Addr) : It where
  go := fun i H => ∃ xs x, SqT K H a xs ∧ xs[i]? = some x
  yld := fun i H v H' => ∃ T x, v = .ref T ∧ H T = none ∧ H' = upd H T (.tup [.int (i : Nat), x]) ∧ ∀ us, SqT K H a us → us[i]? = some x
  stop := fun i H => ∃ xs, SqT K H a xs ∧ i = xs.length
section
variable {P : Program} {w : World} {K : PySem.W.Frag} {es : List Expr} {n : Nat} {tp : Pos}
theorem turn_enumT {a e t : Addr} (ne : e ≠ t) (na : a ≠ t) (ae : a ≠ e) : Turn P w K (.Tuple es n tp) (IteT K a) [e, t] e (fun k h => (∃ old, IsEnum h e t (k : Int) old) ∧ h.IsTupleIter t a k) := by
  refine { mem := by simp, obj := ?obj, keep := ?keep, item := ?item, done := ?done, self := fun _ _ _ _ _ st h => let ⟨⟨_, q⟩, _⟩ := st; wpAny_pyIter_enum q h }
  case obj =>
    rintro k h ⟨⟨old, s1⟩, ⟨o1, p1, _, p2⟩⟩ c hc
    rcases List.mem_cons.mp hc with rfl | hc
    · exact ⟨_, s1, fun v q => nomatch q⟩
    · rw [List.mem_singleton.mp hc]
      exact ⟨o1, p1, fun v q => by rw [p2] at q; cases q⟩
  case keep =>
    rintro k h h' ⟨⟨old, s1⟩, s2⟩ kp
    exact ⟨⟨old, kp e (by simp) _ s1⟩, s2.at fun _ q => kp t (by simp) _ q⟩
  case item =>
    rintro X rfl rfl rfl hc k pins s σ H E I hf ⟨⟨old, s1⟩, s2⟩ ⟨xs, x, qx, gx⟩
    obtain ⟨its, r1, p1, _⟩ := I.tuple qx
    obtain ⟨w1, f1, rw1⟩ := r1.get gx
    have b1 : k < its.toArray.size := by rw [List.size_toArray]; exact (List.getElem?_eq_some_iff.mp f1).1
    have hh : X.A.in1.handled = none := I.ok.hd hc
    have elt := Heap.lt_size s1
    have hef : e ∉ [t, a] := fun hm => by
      rcases List.mem_cons.mp hm with q | q
      · exact ne q
      · exact ae (List.mem_singleton.mp q).symm
    refine wpAny_pyNext_enum_itemD (Draws.tuple hh t a na its.toArray) s1 ⟨s2, p1⟩ b1 ne hef fun x1 h' tk hP ho hs' hT hsz hk => ?_
    have ex1 : x1 = w1 := by
      have : its[k]? = some x1 := by simpa using hP
      rw [f1] at this; exact (Option.some.inj this).symm
    subst ex1
    refine ⟨_, rfl, wpAny_letOwnedTupleGo_enum (s := { s with heap := h', toks := tk + 1 }) ho fun h2 he2 sb => ?_⟩
    have g2 : ∀ c ob, c ≠ e → h'.get? c = some ob → h2.get? c = some ob := fun c ob nc q => (sb.2 c nc).trans q
    have T2 := g2 _ _ (Nat.ne_of_gt elt) hT
    have nw : ObjOk X.prog X.w (upd H s.heap.objs.size (.tup [.int (k : Nat), x])) h2 s.heap.objs.size (.tup [.int (k : Nat), x]) := ⟨(by show 2 ≤ sizeLine; decide), [.int k tk, x1], .cons ⟨_, rfl⟩ (.cons rw1 .nil), ⟨_, T2, rfl, _, rfl⟩⟩
    have I1 : Inv X pins σ (upd H s.heap.objs.size (.tup [.int (k : Nat), x])) { s with heap := h2, toks := tk + 1 } := I.turnedNew (ch := [e, t]) (fun c ob hb q => by
      have n1 : c ≠ e := fun z => hb (by simp [z])
      have n2 : c ≠ t := fun z => hb (by simp [z])
      exact g2 _ _ n1 (hk c ob n1 n2 q)) hf (Nat.le_refl _) nw
    refine ⟨.ref s.heap.objs.size, _, I1, rfl, ⟨_, x, rfl, I.hok.fresh (Nat.le_refl _), rfl, fun us hu => by rw [I.tuple_inj hu qx]; exact gx⟩, ⟨⟨x1, ?_⟩, hs'.1.at fun _ q => g2 _ _ (Ne.symm ne) q⟩, fun c hcm => ?_⟩
    · have e1 : ((k + 1 : Nat) : Int) = (k : Int) + 1 := by omega
      rw [e1]; exact he2
    · have lt : c < s.heap.objs.size := by
        rcases List.mem_cons.mp hcm with rfl | hcm
        · exact elt
        · rw [List.mem_singleton.mp hcm]
          obtain ⟨_, q, _⟩ := s2; exact Heap.lt_size q
      rw [upd_ne (Nat.ne_of_lt lt)]
      exact (hf c hcm).1
  case done =>
    rintro X rfl rfl rfl hc k pins s σ H E I hf ⟨⟨old, s1⟩, s2⟩ ⟨xs, qx, l1⟩
    obtain ⟨its, r1, p1, _⟩ := I.tuple qx
    have n1 : its.toArray.size = xs.length := by rw [List.size_toArray]; exact r1.length.symm
    have hh : X.A.in1.handled = none := I.ok.hd hc
    have s2' : s.heap.IsTupleIter t a its.toArray.size := by rw [n1, ← l1]; exact s2
    refine wpAny_pyNext_enum_endD (Draws.tuple hh t a na its.toArray) s1 ⟨s2', p1⟩ fun h' kp => ⟨rfl, I.turnedL (ch := [e, t]) (fun c ob hb q => ?_) hf⟩
    exact kp c ob (fun z => hb (by simp [z])) q
end
def iEnumT (K : PySem.W.Frag) (ta : TA) : TI := fun σ H R => ta σ H fun vs H1 => ∃ a xs, vs = [.ref a] ∧ SqT K H1 a xs ∧ R (IteT K a) H1
theorem pi_enumT {X : Cx} {e : Expr} {ta : TA} {p pos tp : Pos} {es : List Expr} {n : Nat} (hg : Gl X "enumerate") (hm : X.mg "enumerate" = none) (ha : PA X [e] ta) (hs : starEach [e] X.env = [(false, eval e X.env)] := by rfl) : PI X (.Tuple es n tp) (.Call (.Name "enumerate" p) [e] [] pos) (iEnumT X.K ta) := by
  constructor
  intro pins s σ H R I h
  refine Call_ (ld_blt I hg hm boot_enumerate (PyProof.Rows.callWith_type1 (thn (ha.run pos pins s σ H _ I h) ?_) hs rfl))
  rintro us s1 ⟨vs, H1, I1, r1, a, xs, rfl, qx, q⟩
  obtain ⟨v1, rfl, rv1⟩ := vals1 r1
  cases rv1
  obtain ⟨its, _, p1, _⟩ := I1.tuple qx
  have alt : a < s1.heap.objs.size := by obtain ⟨_, g1, _⟩ := id p1; exact Heap.lt_size g1
  refine call_enum1 (begins_tuple a its.toArray) p1 fun h' he hit kp => wpAny_pyIter_enum he ?_
  refine ⟨s1.heap.objs.size + 1, [s1.heap.objs.size + 1, s1.heap.objs.size], _, _, H1, rfl, I1.kept (t' := s1.toks) kp, turn_enumT (Nat.succ_ne_self _) (Nat.ne_of_lt alt) (Nat.ne_of_lt (Nat.lt_succ_of_lt alt)), ⟨⟨.none, he⟩, ⟨_, hit, rfl, rfl⟩⟩, fun c hc => ?_, q⟩
  have le : s1.heap.objs.size ≤ c := by
    rcases List.mem_cons.mp hc with rfl | hc
    · exact Nat.le_add_right _ _
    · rw [List.mem_singleton.mp hc]; exact Nat.le_refl _
  exact I1.fpOk le (I1.hok.fresh le)
/-- a loop over enumerate of a tuple -/
theorem for_enumT {K : PySem.W.Frag} {a : Addr} {xs : List V} {g : TG} {tb : TS} {D : Ends} {σ : L2.St} {H : Hp} (Pv : Nat → L2.St → Hp → Prop) (h0 : Pv 0 σ H) (hq : ∀ i σ H, Pv i σ H → SqT K H a xs)
    (hs : ∀ (i : Nat) (x : V) (T : Addr) (σ : L2.St) (H : Hp), xs[i]? = some x → Pv i σ H → H T = none → g (.ref T) σ (upd H T (.tup [.int (i : Nat), x])) fun σ2 H2 => tb { D with nx := Pv (i + 1), ct := Pv (i + 1), bk := D.nx } σ2 H2) (hd : ∀ σ H, Pv xs.length σ H → D.nx σ H) :
    ∃ W : Nat → Nat → L2.St → Hp → Prop, (∃ m, W 0 m σ H) ∧ ∀ i m σ H, W i m σ H → ((IteT K a).stop i H ∧ D.nx σ H) ∨ ((IteT K a).go i H ∧ ∃ N : L2.St → Hp → Prop, (∀ σ' H', N σ' H' → ∃ m', m' < m ∧ W (i + 1) m' σ' H') ∧ ∀ v H', (IteT K a).yld i H v H' → g v σ H' fun σ2 H2 => tb { D with nx := N, ct := N, bk := D.nx } σ2 H2) := by
  refine ⟨fun i m σ H => m = xs.length - i ∧ i ≤ xs.length ∧ Pv i σ H, ⟨_, rfl, Nat.zero_le _, h0⟩, ?_⟩
  rintro i m σ H ⟨rfl, hi, p⟩
  have qx := hq i σ H p
  by_cases hlt : i < xs.length
  · refine .inr ⟨⟨xs, xs[i], qx, List.getElem?_eq_getElem hlt⟩, Pv (i + 1), fun σ' H' p' => ⟨_, by omega, rfl, hlt, p'⟩, ?_⟩
    rintro v H' ⟨T, x', rfl, hT, rfl, f1⟩
    exact hs i x' T σ H (f1 xs qx) p hT
  · obtain rfl : i = xs.length := by omega
    exact .inl ⟨⟨xs, qx, rfl⟩, hd σ H p⟩
/-- a loop over enumerate of a list -/
theorem for_enumL {K : PySem.W.Frag} {a : Addr} {xs : List V} {g : TG} {tb : TS} {D : Ends} {σ : L2.St} {H : Hp} (Pv : Nat → L2.St → Hp → Prop) (h0 : Pv 0 σ H) (hq : ∀ i σ H, Pv i σ H → SqL K H a xs)
    (hs : ∀ (i : Nat) (x : V) (T : Addr) (σ : L2.St) (H : Hp), xs[i]? = some x → Pv i σ H → H T = none → g (.ref T) σ (upd H T (.tup [.int (i : Nat), x])) fun σ2 H2 => tb { D with nx := Pv (i + 1), ct := Pv (i + 1), bk := D.nx } σ2 H2) (hd : ∀ σ H, Pv xs.length σ H → D.nx σ H) :
    ∃ W : Nat → Nat → L2.St → Hp → Prop, (∃ m, W 0 m σ H) ∧ ∀ i m σ H, W i m σ H → ((Ite K a).stop i H ∧ D.nx σ H) ∨ ((Ite K a).go i H ∧ ∃ N : L2.St → Hp → Prop, (∀ σ' H', N σ' H' → ∃ m', m' < m ∧ W (i + 1) m' σ' H') ∧ ∀ v H', (Ite K a).yld i H v H' → g v σ H' fun σ2 H2 => tb { D with nx := N, ct := N, bk := D.nx } σ2 H2) := by
  refine ⟨fun i m σ H => m = xs.length - i ∧ i ≤ xs.length ∧ Pv i σ H, ⟨_, rfl, Nat.zero_le _, h0⟩, ?_⟩
  rintro i m σ H ⟨rfl, hi, p⟩
  have qx := hq i σ H p
  by_cases hlt : i < xs.length
  · refine .inr ⟨⟨xs, xs[i], qx, List.getElem?_eq_getElem hlt⟩, Pv (i + 1), fun σ' H' p' => ⟨_, by omega, rfl, hlt, p'⟩, ?_⟩
    rintro v H' ⟨T, x', rfl, hT, rfl, f1⟩
    exact hs i x' T σ H (f1 xs qx) p hT
  · obtain rfl : i = xs.length := by omega
    exact .inl ⟨⟨xs, qx, Nat.le_refl _⟩, hd σ H p⟩
theorem iteT' {c : Bool} {A B : Prop} (e : c = true) (h : A) : if c = true then A else B := by rw [if_pos e]; exact h
theorem iteF' {c : Bool} {A B : Prop} (e : c = false) (h : B) : if c = true then A else B := by rw [if_neg (by rw [e]; decide)]; exact h
end KG

set_option maxHeartbeats 1000000
/-! expressions by what they compute -/
namespace DN
open PySem PySem.Spec PyProof.Rows L2 KG
section
variable {X : Cx} {C : Addr} {A : List Addr}
theorem obind {α β : Type} {o : Option α} {f : α → Option β} {b : β} (h : o.bind f = some b) : ∃ a, o = some a ∧ f a = some b := by
  cases o with
  | none => cases h
  | some a => exact ⟨a, rfl, h⟩
/-! ### names, constants -/
def dV (i : Nat) : List Sl → Option D := fun ρ => match ρ[i]? with
  | some (.val d) => some d
  | _ => none
def dK (d : D) : List Sl → Option D := fun _ => some d
theorem d_var {i : Nat} : ∀ σ H Q, tD C (dV i) σ H Q → tVar i σ H Q := fun σ H Q ⟨A, H0, G, ρ, d, e, sm, hd, k⟩ => by
  unfold dV at hd
  split at hd
  · rename_i d' hi
    cases hd
    obtain ⟨v, h1, h2⟩ := e.val i _ hi
    exact ⟨v, h1, k G H v (.refl sm) h2⟩
  · cases hd
theorem dn_var {i : Nat} {x : Str} {pos : Pos} (hN : X.N[i]? = some x := by rfl) (hv : Vis X.env.scope x := by first | exact .inl rfl | exact .inr (.inl rfl) | exact .inr (.inr rfl)) (hd : (x == ("__debug__" : Str)) = false := by decide) (hcd : (x == ("__classdict__" : Str)) = false := by decide) : PE X (.Name x pos) (tD C (dV i)) :=
  pe_to (pe_var hN hv hd hcd) d_var
theorem d_const {v : V} {d : D} (r : ∀ A G, Rp C A G v d) : ∀ σ H Q, tD C (dK d) σ H Q → tC v σ H Q := fun σ H Q ⟨A, H0, G, ρ, d', e, sm, hd, k⟩ => by
  cases hd
  exact k G H v (.refl sm) (r A G)
theorem dn_int {i : Int} {j pos} : PE X (.Constant (.int i) j pos) (tD C (dK (.int i))) := pe_to pe_int (d_const fun _ _ => .int i)
theorem dn_bl {b : Bool} {j pos} : PE X (.Constant (.bool b) j pos) (tD C (dK (.bl b))) := pe_to pe_bl (d_const fun _ _ => .bl b)
theorem dn_non {j pos} : PE X (.Constant .none j pos) (tD C (dK .non)) := pe_to pe_non (d_const fun _ _ => .non)
theorem dn_str {x : Str} {j pos} : PE X (.Constant (.str x) j pos) (tD C (dK (.str x))) := pe_to pe_str (d_const fun _ _ => .str x)
/-! ### two and one -/
def d2 (f : D → D → Option D) (da db : List Sl → Option D) : List Sl → Option D := fun ρ => (da ρ).bind fun a => (db ρ).bind fun b => f a b
def d1 (f : D → Option D) (da : List Sl → Option D) : List Sl → Option D := fun ρ => (da ρ).bind f
/-- what a rule by values must give for a plain function -/
def Is2 (C : Addr) (r : R2) (f : D → D → Option D) : Prop := ∀ (A : List Addr) (G H : Hp) (x y : V) (a b d : D) (Q : VK), Same G H → Rp C A G x a → Rp C A G y b → f a b = some d → (∀ G' H' v, Ext G H G' H' → Rp C A G' v d → Q v H') → r x y H Q
def Is1 (C : Addr) (r : V → Hp → VK → Prop) (f : D → Option D) : Prop := ∀ (A : List Addr) (G H : Hp) (x : V) (a d : D) (Q : VK), Same G H → Rp C A G x a → f a = some d → (∀ G' H' v, Ext G H G' H' → Rp C A G' v d → Q v H') → r x H Q
theorem is2 {r : R2} {f : D → D → Option D} (h : Is2 C r f) (da db : List Sl → Option D) : ∀ σ H Q, tD C (d2 f da db) σ H Q → tOp r (tD C da) (tD C db) σ H Q := fun σ H Q ⟨A, H0, G, ρ, d, e, sm, hd, k⟩ => by
  obtain ⟨a, ha, hd⟩ := obind hd
  obtain ⟨b, hb, hd⟩ := obind hd
  exact ⟨A, H0, G, ρ, a, e, sm, ha, fun G1 H1 x x1 r1 => ⟨A, H0, G1, ρ, b, e.ext x1, x1.s, hb, fun G2 H2 y x2 r2 =>
    h A G2 H2 x y a b d Q x2.s (r1.mono x2.g) r2 hd fun G' H' v x3 r3 => k G' H' v ((x1.trans x2).trans x3) r3⟩⟩
theorem is1 {r : V → Hp → VK → Prop} {f : D → Option D} (h : Is1 C r f) (da : List Sl → Option D) : ∀ σ H Q, tD C (d1 f da) σ H Q → tUn r (tD C da) σ H Q := fun σ H Q ⟨A, H0, G, ρ, d, e, sm, hd, k⟩ => by
  obtain ⟨a, ha, hd⟩ := obind hd
  exact ⟨A, H0, G, ρ, a, e, sm, ha, fun G1 H1 x x1 r1 => h A G1 H1 x a d Q x1.s r1 hd fun G' H' v x3 r3 => k G' H' v (x1.trans x3) r3⟩
theorem dn_op {op : Operator} {r : R2} {f : D → D → Option D} {a b : Expr} {da db : List Sl → Option D} {pos : Pos} (h : Is2 C r f) (ho : OpR X (binaryOp op) r) (ha : PE X a (tD C da)) (hb : PE X b (tD C db)) : PE X (.BinOp a op b pos) (tD C (d2 f da db)) :=
  pe_to (pe_op ho ha hb) (is2 h da db)
theorem dn_un {op : UnaryOp} {r : V → Hp → VK → Prop} {f : D → Option D} {a : Expr} {da : List Sl → Option D} {pos : Pos} (h : Is1 C r f) (ho : UnR X (unaryOp op) r) (ha : PE X a (tD C da)) : PE X (.UnaryOp op a pos) (tD C (d1 f da)) :=
  pe_to (pe_un ho ha) (is1 h da)
theorem dn_cmp {op : CmpOp} {r : R2} {f : D → D → Option D} {a b : Expr} {da db : List Sl → Option D} {pos : Pos} (h : Is2 C r f) (ho : OpR X (compareOp op) r) (ha : PE X a (tD C da)) (hb : PE X b (tD C db)) (hm : behindInMarks op b = false) : PE X (.Compare a [op] [b] pos) (tD C (d2 f da db)) :=
  pe_to (pe_cmpR ho ha hb hm) (is2 h da db)
theorem dn_ix {r : R2} {f : D → D → Option D} {a b : Expr} {da db : List Sl → Option D} {pos : Pos} (h : Is2 C r f) (ho : IxR X r) (ha : PE X a (tD C da)) (hb : PE X b (tD C db)) (hs : PlainIx b) : PE X (.Subscript a b pos) (tD C (d2 f da db)) :=
  pe_to (pe_ix ho ha hb hs) (is2 h da db)
/-- sizes that are kept to -/
def szB : Nat := 100000
theorem sz_ok {n : Nat} (h : decide (n ≤ szB) = true) : n ≤ sizeLine := Nat.le_trans (of_decide_eq_true h) (by rw [sizeLine_eq]; decide)
theorem sz_lt {n : Nat} (h : decide (n ≤ szB) = true) : n < sizeLine := Nat.lt_of_le_of_lt (of_decide_eq_true h) (by rw [sizeLine_eq]; decide)
/-! + -/
def fAdd : D → D → Option D
  | .int a, .int b => some (.int (a + b))
  | .tup a, .tup b => if decide (a.length + b.length ≤ szB) then some (.tup (a ++ b)) else none
  | .lst a, .lst b => if decide (a.length + b.length ≤ szB) then some (.lst (a ++ b)) else none
  | _, _ => none
def rAddA (K : PySem.W.Frag) : R2 := fun x y H Q => rI0 (fun i j => .int (i + j)) x y H Q ∨ rCatA K x y H Q ∨ rCat x y H Q
theorem op_addA : OpR X (binaryOp .Add) (rAddA X.K) := op_add.or (op_catA.or op_cat)
theorem is_add {K : PySem.W.Frag} : Is2 C (rAddA K) fAdd := fun A G H x y a b d Q sm ra rb hd k => by
  unfold fAdd at hd
  split at hd
  · cases ra; cases rb; cases hd
    exact .inl ⟨_, _, rfl, rfl, k G H _ (.refl sm) (.int _)⟩
  · split at hd
    · rename_i hz
      cases hd
      cases ra with
      | tup ea ra =>
        cases rb with
        | tup eb rb =>
          have l1 := ra.len
          have l2 := rb.len
          refine .inr (.inl ⟨_, _, _, _, rfl, rfl, .of (sm _ _ ea), .of (sm _ _ eb), by rw [l1, l2]; exact sz_ok hz, fun z => ?_, fun n z => ?_, fun n m p np => ?_⟩)
          · subst z
            cases ra
            exact k G H _ (.refl sm) (.tup eb rb)
          · subst z
            cases rb
            refine k G H _ (.refl sm) ?_
            rw [List.append_nil]
            exact .tup ea ra
          · exact k _ _ _ (.new sm np _) (.tup upd_same ((ra.append rb).mono (same_new (by cases q : G p with | none => rfl | some u => rw [sm _ _ q] at np; cases np) _)))
    · cases hd
  · split at hd
    · rename_i hz
      cases hd
      cases ra with
      | lst ea ra =>
        cases rb with
        | lst eb rb =>
          have l1 := ra.len
          have l2 := rb.len
          refine .inr (.inr ⟨_, _, _, _, rfl, rfl, sm _ _ ea, sm _ _ eb, by rw [l1, l2]; exact sz_ok hz, fun p np => ?_⟩)
          exact k _ _ _ (.new sm np _) (.lst upd_same ((ra.append rb).mono (same_new (by cases q : G p with | none => rfl | some u => rw [sm _ _ q] at np; cases np) _)))
    · cases hd
  · cases hd
theorem none_of {G H : Hp} {p : Addr} (sm : Same G H) (np : H p = none) : G p = none := by
  cases q : G p with
  | none => rfl
  | some u => rw [sm _ _ q] at np; cases np
/-! ints -/
def fI2 (c : Int → Int → Bool) (f : Int → Int → Int) : D → D → Option D
  | .int a, .int b => if c a b then some (.int (f a b)) else none
  | _, _ => none
theorem is_i2 {c : Int → Int → Bool} {P : Int → Int → Prop} {f : Int → Int → Int} (hc : ∀ i j, c i j = true → P i j) : Is2 C (rI P fun i j => .int (f i j)) (fI2 c f) := fun A G H x y a b d Q sm ra rb hd k => by
  unfold fI2 at hd
  split at hd
  · split at hd
    · rename_i h
      cases ra; cases rb; cases hd
      exact ⟨_, _, rfl, rfl, hc _ _ h, k G H _ (.refl sm) (.int _)⟩
    · cases hd
  · cases hd
def fI20 (f : Int → Int → Int) : D → D → Option D
  | .int a, .int b => some (.int (f a b))
  | _, _ => none
theorem is_i20 {f : Int → Int → Int} : Is2 C (rI0 fun i j => .int (f i j)) (fI20 f) := fun A G H x y a b d Q sm ra rb hd k => by
  unfold fI20 at hd
  split at hd
  · cases ra; cases rb; cases hd
    exact ⟨_, _, rfl, rfl, k G H _ (.refl sm) (.int _)⟩
  · cases hd
def fB20 (f : Int → Int → Bool) : D → D → Option D
  | .int a, .int b => some (.bl (f a b))
  | _, _ => none
theorem is_b20 {f : Int → Int → Bool} : Is2 C (rI0 fun i j => .bl (f i j)) (fB20 f) := fun A G H x y a b d Q sm ra rb hd k => by
  unfold fB20 at hd
  split at hd
  · cases ra; cases rb; cases hd
    exact ⟨_, _, rfl, rfl, k G H _ (.refl sm) (.bl _)⟩
  · cases hd
def fI1 (f : Int → Int) : D → Option D
  | .int a => some (.int (f a))
  | _ => none
theorem is_u {f : Int → Int} : Is1 C (rU fun i => .int (f i)) (fI1 f) := fun A G H x a d Q sm ra hd k => by
  unfold fI1 at hd
  split at hd
  · cases ra; cases hd
    exact ⟨_, rfl, k G H _ (.refl sm) (.int _)⟩
  · cases hd
def cMul (a b : Int) : Bool := decide (a.natAbs.log2 + b.natAbs.log2 < 1000000)
def cDiv (_ b : Int) : Bool := decide (b ≠ 0) && decide (b.natAbs.log2 < 9000)
def cShl (a b : Int) : Bool := decide (0 ≤ b) && decide (b ≤ 100000) && decide (a.natAbs.log2 < 1000000)
def cShr (_ b : Int) : Bool := decide (0 ≤ b)
def cMod (_ b : Int) : Bool := decide (b ≠ 0)
theorem cDiv_ok (i j : Int) (h : cDiv i j = true) : CDivZ i j := by
  unfold cDiv at h
  rw [Bool.and_eq_true] at h
  exact ⟨of_decide_eq_true h.1, of_decide_eq_true h.2⟩
theorem cShl_ok (i j : Int) (h : cShl i j = true) : CShl i j := by
  unfold cShl at h
  simp only [Bool.and_eq_true, decide_eq_true_eq] at h
  obtain ⟨⟨h1, h2⟩, h3⟩ := h
  have b : Builtin.Int.intBits i ≤ i.natAbs.log2 + 1 := by
    unfold Builtin.Int.intBits
    split <;> omega
  have e : (2 : Int) ^ 27 = 134217728 := by decide
  refine ⟨h1, ?_⟩
  rw [e]
  omega
abbrev fSub := fI20 (· - ·)
abbrev fDiv := fI2 cDiv Int.fdiv
abbrev fMod := fI2 cMod Int.fmod
abbrev fShl := fI2 cShl (fun i j => i * 2 ^ j.toNat)
abbrev fShr := fI2 cShr (fun i j => i / 2 ^ j.toNat)
abbrev fAnd := fI20 Builtin.bitAnd
abbrev fOr := fI20 Builtin.bitOr
section
variable {a b : Expr} {da db : List Sl → Option D} {pos : Pos}
theorem dn_add (ha : PE X a (tD C da)) (hb : PE X b (tD C db)) : PE X (.BinOp a .Add b pos) (tD C (d2 fAdd da db)) := dn_op is_add op_addA ha hb
theorem dn_sub (ha : PE X a (tD C da)) (hb : PE X b (tD C db)) : PE X (.BinOp a .Sub b pos) (tD C (d2 fSub da db)) := dn_op is_i20 op_sub ha hb
theorem dn_div (ha : PE X a (tD C da)) (hb : PE X b (tD C db)) : PE X (.BinOp a .FloorDiv b pos) (tD C (d2 fDiv da db)) := dn_op (is_i2 cDiv_ok) op_fdivZ ha hb
theorem dn_mod (ha : PE X a (tD C da)) (hb : PE X b (tD C db)) : PE X (.BinOp a .Mod b pos) (tD C (d2 fMod da db)) := dn_op (is_i2 fun _ _ h => of_decide_eq_true h) op_modN ha hb
theorem dn_shl (ha : PE X a (tD C da)) (hb : PE X b (tD C db)) : PE X (.BinOp a .LShift b pos) (tD C (d2 fShl da db)) := dn_op (is_i2 cShl_ok) op_shlW ha hb
theorem dn_shr (ha : PE X a (tD C da)) (hb : PE X b (tD C db)) : PE X (.BinOp a .RShift b pos) (tD C (d2 fShr da db)) := dn_op (is_i2 fun _ _ h => of_decide_eq_true h) op_shr ha hb
theorem dn_and (ha : PE X a (tD C da)) (hb : PE X b (tD C db)) : PE X (.BinOp a .BitAnd b pos) (tD C (d2 fAnd da db)) := dn_op is_i20 op_and ha hb
theorem dn_or (ha : PE X a (tD C da)) (hb : PE X b (tD C db)) : PE X (.BinOp a .BitOr b pos) (tD C (d2 fOr da db)) := dn_op is_i20 op_or ha hb
theorem dn_neg (ha : PE X a (tD C da)) : PE X (.UnaryOp .USub a pos) (tD C (d1 (fI1 fun i => -i) da)) := dn_un is_u un_neg ha
theorem dn_lt (ha : PE X a (tD C da)) (hb : PE X b (tD C db)) : PE X (.Compare a [.Lt] [b] pos) (tD C (d2 (fB20 fun i j => decide (i < j)) da db)) := dn_cmp is_b20 op_lt ha hb (nomark _)
theorem dn_le (ha : PE X a (tD C da)) (hb : PE X b (tD C db)) : PE X (.Compare a [.LtE] [b] pos) (tD C (d2 (fB20 fun i j => decide (i ≤ j)) da db)) := dn_cmp is_b20 op_le ha hb (nomark _)
theorem dn_gt (ha : PE X a (tD C da)) (hb : PE X b (tD C db)) : PE X (.Compare a [.Gt] [b] pos) (tD C (d2 (fB20 fun i j => decide (j < i)) da db)) := dn_cmp is_b20 op_gt ha hb (nomark _)
theorem dn_ge (ha : PE X a (tD C da)) (hb : PE X b (tD C db)) : PE X (.Compare a [.GtE] [b] pos) (tD C (d2 (fB20 fun i j => decide (j ≤ i)) da db)) := dn_cmp is_b20 op_ge ha hb (nomark _)
end
/-! == : of any data but Numbers -/
mutual
def toP : D → PyData
  | .non => .none
  | .bl b => .bool b
  | .int i => .int i
  | .str x => .str x
  | .tup ds => .tuple (toPs ds)
  | .lst ds => .list (toPs ds)
  | .num _ _ => .none
  | .ref _ => .none
def toPs : List D → List PyData
  | [] => []
  | d :: ds => toP d :: toPs ds
end
mutual
def noNum : D → Bool
  | .tup ds => noNums ds
  | .lst ds => noNums ds
  | .num _ _ => false
  | .ref _ => false
  | _ => true
def noNums : List D → Bool
  | [] => true
  | d :: ds => noNum d && noNums ds
end
mutual
theorem Rp.dp {K : PySem.W.Frag} {G H : Hp} (sm : Same G H) : ∀ {d : D} {v : V}, Rp C A G v d → noNum d = true → Dp K H v (toP d)
  | .non, _, h, _ => by cases h; exact .non
  | .bl b, _, h, _ => by cases h; exact .bl b
  | .int i, _, h, _ => by cases h; exact .int i
  | .str x, _, h, _ => by cases h; exact .str x
  | .tup ds, _, h, n => by cases h with | tup e r => exact .tup (.of (sm _ _ e)) (RpAll.dp sm r (by simpa [noNum] using n))
  | .lst ds, _, h, n => by cases h with | lst e r => exact .lst (.of (sm _ _ e)) (RpAll.dp sm r (by simpa [noNum] using n))
  | .num t e, _, h, n => by simp [noNum] at n
  | .ref i, _, h, n => by simp [noNum] at n
theorem RpAll.dp {K : PySem.W.Frag} {G H : Hp} (sm : Same G H) : ∀ {ds : List D} {vs : List V}, RpAll C A G vs ds → noNums ds = true → DpAll K H vs (toPs ds)
  | [], _, h, _ => by cases h; exact .nil
  | d :: ds, _, h, n => by
    cases h with
    | cons r1 r2 =>
      have n' : noNum d = true ∧ noNums ds = true := by simpa [noNums] using n
      exact .cons (Rp.dp sm r1 n'.1) (RpAll.dp sm r2 n'.2)
end
def fEq : D → D → Option D
  | .int a, .int b => some (.bl (decide (a = b)))
  | a, b => if noNum a && noNum b && SeqAt.shaped (toP a) && SeqAt.shaped (toP b) then some (.bl (PyData.eqv (toP a) (toP b))) else none
def fNe : D → D → Option D
  | .int a, .int b => some (.bl (!decide (a = b)))
  | a, b => if noNum a && noNum b && SeqAt.shaped (toP a) && SeqAt.shaped (toP b) then some (.bl (!PyData.eqv (toP a) (toP b))) else none
def rEqA (K : PySem.W.Frag) : R2 := fun x y H Q => rEq x y H Q ∨ rEqD K x y H Q
def rNeA (K : PySem.W.Frag) : R2 := fun x y H Q => rNe x y H Q ∨ rNeD K x y H Q
theorem is_eq {K : PySem.W.Frag} : Is2 C (rEqA K) fEq := fun A G H x y a b d Q sm ra rb hd k => by
  unfold fEq at hd
  split at hd
  · cases ra; cases rb; cases hd
    refine .inl ⟨rfl, k G H _ (.refl sm) ?_⟩
    rename_i i j
    have e : decide (V.int i = V.int j) = decide (i = j) := decide_eq_decide.mpr ⟨fun h => V.int.inj h, fun h => by rw [h]⟩
    rw [e]
    exact .bl _
  · split at hd
    · rename_i h
      simp only [Bool.and_eq_true] at h
      cases hd
      exact .inr ⟨_, _, ra.dp sm h.1.1.1, rb.dp sm h.1.1.2, h.1.2, h.2, k G H _ (.refl sm) (.bl _)⟩
    · cases hd
theorem is_ne {K : PySem.W.Frag} : Is2 C (rNeA K) fNe := fun A G H x y a b d Q sm ra rb hd k => by
  unfold fNe at hd
  split at hd
  · cases ra; cases rb; cases hd
    refine .inl ⟨rfl, k G H _ (.refl sm) ?_⟩
    rename_i i j
    have e : decide (V.int i = V.int j) = decide (i = j) := decide_eq_decide.mpr ⟨fun h => V.int.inj h, fun h => by rw [h]⟩
    rw [e]
    exact .bl _
  · split at hd
    · rename_i h
      simp only [Bool.and_eq_true] at h
      cases hd
      exact .inr ⟨_, _, ra.dp sm h.1.1.1, rb.dp sm h.1.1.2, h.1.2, h.2, k G H _ (.refl sm) (.bl _)⟩
    · cases hd
section
variable {a b : Expr} {da db : List Sl → Option D} {pos : Pos}
theorem dn_eq (hu : X.A.units + 64 < cLine) (ha : PE X a (tD C da)) (hb : PE X b (tD C db)) : PE X (.Compare a [.Eq] [b] pos) (tD C (d2 fEq da db)) := dn_cmp (r := rEqA X.K) is_eq (op_eq.or (op_eqD hu)) ha hb (nomark _)
theorem dn_ne (hu : X.A.units + 64 < cLine) (ha : PE X a (tD C da)) (hb : PE X b (tD C db)) : PE X (.Compare a [.NotEq] [b] pos) (tD C (d2 fNe da db)) := dn_cmp (r := rNeA X.K) is_ne (op_ne.or (op_neD hu)) ha hb (nomark _)
end
/-! is None -/
def fIsN : D → D → Option D
  | .non, .non => some (.bl true)
  | .num _ _, .non => some (.bl false)
  | .tup _, .non => some (.bl false)
  | .lst _, .non => some (.bl false)
  | .int _, .non => some (.bl false)
  | .str _, .non => some (.bl false)
  | .bl _, .non => some (.bl false)
  | _, _ => none
def dNot : D → Option D
  | .bl b => some (.bl (!b))
  | _ => none
def fNotN (a b : D) : Option D := (fIsN a b).bind dNot
theorem isn_ok {G : Hp} {x y : V} {a b d : D} (ra : Rp C A G x a) (rb : Rp C A G y b) (hd : fIsN a b = some d) : y = .non ∧ d = .bl (decide (x = .non)) := by
  unfold fIsN at hd
  split at hd <;> first | (cases ra; cases rb; cases hd; exact ⟨rfl, rfl⟩) | cases hd
theorem dn_isN {a : Expr} {j pos pos'} {da : List Sl → Option D} (ha : PE X a (tD C da)) : PE X (.Compare a [.Is] [.Constant .none j pos'] pos) (tD C (d2 fIsN da (dK .non))) :=
  dn_cmp (r := fun x y H Q => y = .non ∧ Q (.bl (decide (x = .non))) H) (fun A G H x y a b d Q sm ra rb hd k => by
    obtain ⟨h1, h2⟩ := isn_ok ra rb hd
    subst h2
    exact ⟨h1, k G H _ (.refl sm) (.bl _)⟩) op_isN ha dn_non (nomark _)
theorem dn_notN {a : Expr} {j pos pos'} {da : List Sl → Option D} (ha : PE X a (tD C da)) : PE X (.Compare a [.IsNot] [.Constant .none j pos'] pos) (tD C (d2 fNotN da (dK .non))) :=
  dn_cmp (r := fun x y H Q => y = .non ∧ Q (.bl (!decide (x = .non))) H) (fun A G H x y a b d Q sm ra rb hd k => by
    obtain ⟨c, h0, hd⟩ := obind hd
    obtain ⟨h1, h2⟩ := isn_ok ra rb h0
    subst h2
    cases hd
    exact ⟨h1, k G H _ (.refl sm) (.bl _)⟩) op_notN ha dn_non (nomark _)
/-! t[i] -/
def fIx : D → D → Option D
  | .tup ds, .int i => atI ds i
  | .lst ds, .int i => atI ds i
  | _, _ => none
theorem at_rp {G : Hp} {vs : List V} {ds : List D} {i : Int} {d : D} (r : RpAll C A G vs ds) (h : atI ds i = some d) : ∃ v, atI vs i = some v ∧ Rp C A G v d := by
  unfold atI at h ⊢
  rw [r.len]
  obtain ⟨j, h1, h2⟩ := obind h
  rw [h1]
  exact r.get h2
theorem is_ix {K : PySem.W.Frag} : Is2 C (rIx K) fIx := fun A G H x y a b d Q sm ra rb hd k => by
  unfold fIx at hd
  split at hd
  · cases rb
    cases ra with
    | tup e r =>
      obtain ⟨v, h1, h2⟩ := at_rp r hd
      exact .inr (.inl ⟨_, _, _, v, rfl, rfl, .of (sm _ _ e), h1, k G H v (.refl sm) h2⟩)
  · cases rb
    cases ra with
    | lst e r =>
      obtain ⟨v, h1, h2⟩ := at_rp r hd
      exact .inl ⟨_, _, _, v, rfl, rfl, .of (sm _ _ e), h1, k G H v (.refl sm) h2⟩
  · cases hd
theorem dn_sub_ix {a b : Expr} {da db : List Sl → Option D} {pos : Pos} (ha : PE X a (tD C da)) (hb : PE X b (tD C db)) (hs : PlainIx b) : PE X (.Subscript a b pos) (tD C (d2 fIx da db)) := dn_ix is_ix ix_seq ha hb hs
end
end DN

set_option maxHeartbeats 1000000
/-! displays, slices, tests, calls, comprehensions by what they compute -/
namespace DN
open PySem PySem.Spec PyProof.Rows L2 KG
section
variable {X : Cx} {C : Addr} {A : List Addr} {pos : Pos}
/-! ### arguments, displays -/
def a0 : List Sl → Option (List D) := fun _ => some []
def ac (d : List Sl → Option D) (ds : List Sl → Option (List D)) : List Sl → Option (List D) := fun ρ => (d ρ).bind fun x => (ds ρ).bind fun xs => some (x :: xs)
theorem da_nil : PA X [] (tA C a0) := pa_to pa_nil fun σ H Q ⟨A, H0, G, ρ, d, e, sm, hd, k⟩ => by cases hd; exact k G H [] (.refl sm) .nil
theorem da_cons {e : Expr} {es : List Expr} {d : List Sl → Option D} {ds : List Sl → Option (List D)} (ha : PE X e (tD C d)) (hr : PA X es (tA C ds)) (hs : starEach (e :: es) X.env = (false, eval e X.env) :: starEach es X.env := by rfl) : PA X (e :: es) (tA C (ac d ds)) :=
  pa_to (pa_cons ha hr hs) fun σ H Q ⟨A, H0, G, ρ, z, en, sm, hd, k⟩ => by
    obtain ⟨a, h1, hd⟩ := obind hd
    obtain ⟨as, h2, hd⟩ := obind hd
    cases hd
    exact ⟨A, H0, G, ρ, a, en, sm, h1, fun G1 H1 x x1 r1 => ⟨A, H0, G1, ρ, as, en.ext x1, x1.s, h2, fun G2 H2 xs x2 r2 => k G2 H2 _ (x1.trans x2) (.cons (r1.mono x2.g) r2)⟩⟩
def dTup (das : List Sl → Option (List D)) : List Sl → Option D := fun ρ => (das ρ).bind fun ds => if decide (ds.length ≤ szB) then some (.tup ds) else none
def dLst (das : List Sl → Option (List D)) : List Sl → Option D := fun ρ => (das ρ).bind fun ds => if decide (ds.length ≤ szB) then some (.lst ds) else none
theorem oif {c : Bool} {α : Type} {a b : α} (h : (if c then some a else none) = some b) : c = true ∧ a = b := by
  cases c with
  | true => exact ⟨rfl, by simpa using h⟩
  | false => simp at h
theorem dn_tup {es : List Expr} {x1} {das : List Sl → Option (List D)} (h : PA X es (tA C das)) : PE X (.Tuple es x1 pos) (tD C (dTup das)) :=
  pe_to (pe_tup h) fun σ H Q ⟨A, H0, G, ρ, d, e, sm, hd, k⟩ => by
    obtain ⟨ds, h1, hd⟩ := obind hd
    obtain ⟨hz, rfl⟩ := oif hd
    exact ⟨A, H0, G, ρ, ds, e, sm, h1, fun G1 H1 xs x1 r1 => ⟨by rw [r1.len]; exact sz_ok hz, fun p np => k _ _ _ (x1.trans (.new x1.s np _)) (.tup upd_same (r1.mono (same_new (none_of x1.s np) _)))⟩⟩
theorem dn_lst {es : List Expr} {das : List Sl → Option (List D)} (h : PA X es (tA C das)) : PE X (.List es pos) (tD C (dLst das)) :=
  pe_to (pe_lst h) fun σ H Q ⟨A, H0, G, ρ, d, e, sm, hd, k⟩ => by
    obtain ⟨ds, h1, hd⟩ := obind hd
    obtain ⟨hz, rfl⟩ := oif hd
    exact ⟨A, H0, G, ρ, ds, e, sm, h1, fun G1 H1 xs x1 r1 => ⟨by rw [r1.len]; exact sz_ok hz, fun p np => k _ _ _ (x1.trans (.new x1.s np _)) (.lst upd_same (r1.mono (same_new (none_of x1.s np) _)))⟩⟩
/-! ### slices -/
def p0 : List Sl → Option (Option Int) := fun _ => some none
def asI : D → Option (Option Int)
  | .int i => some (some i)
  | _ => none
def p1 (d : List Sl → Option D) : List Sl → Option (Option Int) := fun ρ => (d ρ).bind asI
theorem dp_none : PO X none (tP C p0) := po_to po_none fun σ H Q ⟨A, H0, G, ρ, d, e, sm, hd, k⟩ => by cases hd; exact k G H none (.refl sm) rfl
theorem dp_some {e : Expr} {d : List Sl → Option D} (h : PE X e (tD C d)) : PO X (some e) (tP C (p1 d)) := po_to (po_some h) fun σ H Q ⟨A, H0, G, ρ, z, en, sm, hd, k⟩ => by
  obtain ⟨a, h1, hd⟩ := obind hd
  refine ⟨A, H0, G, ρ, a, en, sm, h1, fun G1 H1 x x1 r1 => ?_⟩
  unfold asI at hd
  split at hd
  · cases hd
    cases r1
    exact ⟨_, rfl, k G1 H1 _ x1 rfl⟩
  · cases hd
def cutD {α : Type} (xs : List α) (lo hi : Option Int) : List α := (xs.drop (HT.sIx xs.length 0 lo)).take (HT.sIx xs.length xs.length hi - HT.sIx xs.length 0 lo)
def fSl : D → Option Int → Option Int → Option D
  | .tup ds, lo, hi => some (.tup (cutD ds lo hi))
  | .lst ds, lo, hi => some (.lst (cutD ds lo hi))
  | _, _, _ => none
def dSl (de : List Sl → Option D) (dl dh : List Sl → Option (Option Int)) : List Sl → Option D := fun ρ => (de ρ).bind fun x => (dl ρ).bind fun l => (dh ρ).bind fun u => fSl x l u
theorem cut_rp {G : Hp} {vs : List V} {ds : List D} (r : RpAll C A G vs ds) (lo hi : Option Int) : RpAll C A G (cutV vs lo hi) (cutD ds lo hi) := by
  unfold cutV cutD
  rw [r.len]
  exact (r.drop _).take _
def rSlB (K : PySem.W.Frag) : V → Option Int → Option Int → Hp → VK → Prop := fun x lo hi H Q => rSlA K x lo hi H Q ∨ rSlL K x lo hi H Q
theorem dn_slice {e : Expr} {lo hi : Option Expr} {p2 : Pos} {de : List Sl → Option D} {dl dh : List Sl → Option (Option Int)} (he : PE X e (tD C de)) (hl : PO X lo (tP C dl)) (hi' : PO X hi (tP C dh)) : PE X (.Subscript e (.Slice lo hi none p2) pos) (tD C (dSl de dl dh)) :=
  pe_to (pe_slice (r := rSlB X.K) (sl_tupA.or sl_list) he hl hi') fun σ H Q ⟨A, H0, G, ρ, z, en, sm, hd, k⟩ => by
    obtain ⟨a, h1, hd⟩ := obind hd
    obtain ⟨l, h2, hd⟩ := obind hd
    obtain ⟨u, h3, hd⟩ := obind hd
    refine ⟨A, H0, G, ρ, a, en, sm, h1, fun G1 H1 x x1 r1 => ⟨A, H0, G1, ρ, l, en.ext x1, x1.s, h2, fun G2 H2 l' x2 el => ⟨A, H0, G2, ρ, u, (en.ext x1).ext x2, x2.s, h3, fun G3 H3 u' x3 eu => ?_⟩⟩⟩
    subst el
    subst eu
    have r3 := (r1.mono x2.g).mono x3.g
    unfold fSl at hd
    split at hd
    · cases hd
      cases r3 with
      | tup ea ra =>
        rename_i ds _ _ _ vs
        refine .inl ⟨_, _, rfl, .of (x3.s _ _ ea), fun z => k _ _ _ ((x1.trans x2).trans x3) ?_, fun _ p np => k _ _ _ (((x1.trans x2).trans x3).trans (.new x3.s np _)) (.tup upd_same ((cut_rp ra l' u').mono (same_new (none_of x3.s np) _)))⟩
        rw [ra.len] at z
        have hc : cutD ds l' u' = ds := by
          unfold cutD
          rw [z.1, z.2, List.drop_zero, Nat.sub_zero, List.take_length]
        rw [hc]
        exact .tup ea ra
    · cases hd
      cases r3 with
      | lst ea ra =>
        refine .inr ⟨_, _, rfl, .of (x3.s _ _ ea), fun p np => k _ _ _ (((x1.trans x2).trans x3).trans (.new x3.s np _)) (.lst upd_same ((cut_rp ra l' u').mono (same_new (none_of x3.s np) _)))⟩
    · cases hd
/-! ### tests -/
def asB : D → Option Bool
  | .bl b => some b
  | _ => none
def dAsB (d : List Sl → Option D) : List Sl → Option Bool := fun ρ => (d ρ).bind asB
theorem asB_ok {d : D} {b : Bool} (h : asB d = some b) : d = .bl b := by
  unfold asB at h
  split at h
  · cases h; rfl
  · cases h
theorem test_of {t : TE} {den : List Sl → Option D} (h : ∀ σ H Q, tD C den σ H Q → t σ H Q) : ∀ σ H Q, tB C (dAsB den) σ H Q → tTest t σ H Q := fun σ H Q ⟨A, H0, G, ρ, b, en, sm, hd, k⟩ => by
  obtain ⟨d, h1, hd⟩ := obind hd
  have := asB_ok hd
  subst this
  exact h σ H _ ⟨A, H0, G, ρ, .bl b, en, sm, h1, fun G1 H1 v x1 r1 => by cases r1; exact ⟨b, rfl, k G1 H1 b x1 rfl⟩⟩
theorem dt_cmp {op : CmpOp} {r : R2} {f : D → D → Option D} {a b : Expr} {da db : List Sl → Option D} (h : Is2 C r f) (ho : OpR X (compareOp op) r) (ha : PE X a (tD C da)) (hb : PE X b (tD C db)) (hm : behindInMarks op b = false) : PT X (.Compare a [op] [b] pos) (tB C (dAsB (d2 f da db))) :=
  pt_to (pt_cmpR ho ha hb hm) (test_of (is2 h da db))
section
variable {a b : Expr} {da db : List Sl → Option D}
theorem dt_eq (hu : X.A.units + 64 < cLine) (ha : PE X a (tD C da)) (hb : PE X b (tD C db)) : PT X (.Compare a [.Eq] [b] pos) (tB C (dAsB (d2 fEq da db))) := dt_cmp (r := rEqA X.K) is_eq (op_eq.or (op_eqD hu)) ha hb (nomark _)
theorem dt_ne (hu : X.A.units + 64 < cLine) (ha : PE X a (tD C da)) (hb : PE X b (tD C db)) : PT X (.Compare a [.NotEq] [b] pos) (tB C (dAsB (d2 fNe da db))) := dt_cmp (r := rNeA X.K) is_ne (op_ne.or (op_neD hu)) ha hb (nomark _)
theorem dt_lt (ha : PE X a (tD C da)) (hb : PE X b (tD C db)) : PT X (.Compare a [.Lt] [b] pos) (tB C (dAsB (d2 (fB20 fun i j => decide (i < j)) da db))) := dt_cmp is_b20 op_lt ha hb (nomark _)
theorem dt_le (ha : PE X a (tD C da)) (hb : PE X b (tD C db)) : PT X (.Compare a [.LtE] [b] pos) (tB C (dAsB (d2 (fB20 fun i j => decide (i ≤ j)) da db))) := dt_cmp is_b20 op_le ha hb (nomark _)
theorem dt_gt (ha : PE X a (tD C da)) (hb : PE X b (tD C db)) : PT X (.Compare a [.Gt] [b] pos) (tB C (dAsB (d2 (fB20 fun i j => decide (j < i)) da db))) := dt_cmp is_b20 op_gt ha hb (nomark _)
theorem dt_ge (ha : PE X a (tD C da)) (hb : PE X b (tD C db)) : PT X (.Compare a [.GtE] [b] pos) (tB C (dAsB (d2 (fB20 fun i j => decide (j ≤ i)) da db))) := dt_cmp is_b20 op_ge ha hb (nomark _)
theorem dt_isN {j pos'} (ha : PE X a (tD C da)) : PT X (.Compare a [.Is] [.Constant .none j pos'] pos) (tB C (dAsB (d2 fIsN da (dK .non)))) :=
  dt_cmp (r := fun x y H Q => y = .non ∧ Q (.bl (decide (x = .non))) H) (fun A G H x y a b d Q sm ra rb hd k => by
    obtain ⟨h1, h2⟩ := isn_ok ra rb hd
    subst h2
    exact ⟨h1, k G H _ (.refl sm) (.bl _)⟩) op_isN ha dn_non (nomark _)
theorem dt_notN {j pos'} (ha : PE X a (tD C da)) : PT X (.Compare a [.IsNot] [.Constant .none j pos'] pos) (tB C (dAsB (d2 fNotN da (dK .non)))) :=
  dt_cmp (r := fun x y H Q => y = .non ∧ Q (.bl (!decide (x = .non))) H) (fun A G H x y a b d Q sm ra rb hd k => by
    obtain ⟨c, h0, hd⟩ := obind hd
    obtain ⟨h1, h2⟩ := isn_ok ra rb h0
    subst h2
    cases hd
    exact ⟨h1, k G H _ (.refl sm) (.bl _)⟩) op_notN ha dn_non (nomark _)
end
/-- the truth of a value -/
def fTru : D → Option Bool
  | .non => some false
  | .bl b => some b
  | .int i => some (i != 0)
  | .tup ds => some (!ds.isEmpty)
  | .lst ds => some (!ds.isEmpty)
  | _ => none
theorem emp_rp {G : Hp} {vs : List V} {ds : List D} (r : RpAll C A G vs ds) : vs.isEmpty = ds.isEmpty := by
  cases r <;> rfl
theorem tru_rp {K : PySem.W.Frag} {G H : Hp} {x : V} {d : D} {b : Bool} (sm : Same G H) (r : Rp C A G x d) (h : fTru d = some b) : TruV K x H b := by
  unfold fTru at h
  split at h
  · cases h; cases r; rfl
  · cases h; cases r; rfl
  · cases h; cases r; rfl
  · cases h
    cases r with
    | tup e ra => exact .inr (.inl ⟨_, .of (sm _ _ e), by rw [emp_rp ra]⟩)
  · cases h
    cases r with
    | lst e ra => exact .inl ⟨_, .of (sm _ _ e), by rw [emp_rp ra]⟩
  · cases h
def dTru (d : List Sl → Option D) : List Sl → Option Bool := fun ρ => (d ρ).bind fTru
theorem dt_truth {a : Expr} {da : List Sl → Option D} (ha : PE X a (tD C da)) (he : ∀ whole, isTrue a X.env whole = (do let v ← whole; standAt a.pos; holding [v] (truthy v)) := by intro _; rfl) : PT X a (tB C (dTru da)) :=
  pt_to (pt_truth ha he) fun σ H Q ⟨A, H0, G, ρ, b, en, sm, hd, k⟩ => by
    obtain ⟨d, h1, hd⟩ := obind hd
    exact ⟨A, H0, G, ρ, d, en, sm, h1, fun G1 H1 v x1 r1 => ⟨b, tru_rp x1.s r1 hd, k G1 H1 b x1 rfl⟩⟩
def bNot (d : List Sl → Option Bool) : List Sl → Option Bool := fun ρ => (d ρ).bind fun b => some (!b)
def bAnd (d e : List Sl → Option Bool) : List Sl → Option Bool := fun ρ => (d ρ).bind fun b => if b then e ρ else some false
def bOr (d e : List Sl → Option Bool) : List Sl → Option Bool := fun ρ => (d ρ).bind fun b => if b then some true else e ρ
section
variable {a b : Expr} {rest : List Expr} {da db : List Sl → Option Bool}
theorem dt_not (ha : PT X a (tB C da)) : PT X (.UnaryOp .Not a pos) (tB C (bNot da)) := pt_to (pt_not ha) fun σ H Q ⟨A, H0, G, ρ, b, en, sm, hd, k⟩ => by
  obtain ⟨d, h1, hd⟩ := obind hd
  cases hd
  exact ⟨A, H0, G, ρ, d, en, sm, h1, fun G1 H1 v x1 r1 => k G1 H1 _ x1 (by show (!v) = !d; rw [show v = d from r1])⟩
theorem dw_and1 (ha : PT X a (tB C da)) : PW X (.BoolOp .And [a] pos) (tB C da) := pw_and1 ha
theorem dw_or1 (ha : PT X a (tB C da)) : PW X (.BoolOp .Or [a] pos) (tB C da) := pw_or1 ha
theorem dw_and (ha : PT X a (tB C da)) (hb : PW X (.BoolOp .And (b :: rest) pos) (tB C db)) : PW X (.BoolOp .And (a :: b :: rest) pos) (tB C (bAnd da db)) := pw_to (pw_and ha hb) fun σ H Q ⟨A, H0, G, ρ, c, en, sm, hd, k⟩ => by
  obtain ⟨d, h1, hd⟩ := obind hd
  refine ⟨A, H0, G, ρ, d, en, sm, h1, fun G1 H1 v x1 r1 => ?_⟩
  obtain rfl : v = d := r1
  cases v with
  | true => exact ⟨A, H0, G1, ρ, c, en.ext x1, x1.s, by simpa using hd, fun G2 H2 v x2 r2 => k G2 H2 v (x1.trans x2) r2⟩
  | false =>
    have : c = false := by simpa using hd.symm
    subst this
    exact k G1 H1 false x1 rfl
theorem dw_or (ha : PT X a (tB C da)) (hb : PW X (.BoolOp .Or (b :: rest) pos) (tB C db)) : PW X (.BoolOp .Or (a :: b :: rest) pos) (tB C (bOr da db)) := pw_to (pw_or ha hb) fun σ H Q ⟨A, H0, G, ρ, c, en, sm, hd, k⟩ => by
  obtain ⟨d, h1, hd⟩ := obind hd
  refine ⟨A, H0, G, ρ, d, en, sm, h1, fun G1 H1 v x1 r1 => ?_⟩
  obtain rfl : v = d := r1
  cases v with
  | false => exact ⟨A, H0, G1, ρ, c, en.ext x1, x1.s, by simpa using hd, fun G2 H2 v x2 r2 => k G2 H2 v (x1.trans x2) r2⟩
  | true =>
    have : c = true := by simpa using hd.symm
    subst this
    exact k G1 H1 true x1 rfl
end
/-! as values, of bools -/
def vAnd (d e : List Sl → Option D) : List Sl → Option D := fun ρ => (d ρ).bind fun x => (asB x).bind fun b => if b then e ρ else some (.bl false)
def vOr (d e : List Sl → Option D) : List Sl → Option D := fun ρ => (d ρ).bind fun x => (asB x).bind fun b => if b then some (.bl true) else e ρ
section
variable {a b : Expr} {rest : List Expr} {da db : List Sl → Option D}
theorem dn_one {op} (h : PE X a (tD C da)) : PE X (.BoolOp op [a] pos) (tD C da) := pe_one h
theorem dn_andV (ha : PE X a (tD C da)) (hb : PE X (.BoolOp .And (b :: rest) pos) (tD C db)) : PE X (.BoolOp .And (a :: b :: rest) pos) (tD C (vAnd da db)) := pe_to (pe_and ha hb) fun σ H Q ⟨A, H0, G, ρ, c, en, sm, hd, k⟩ => by
  obtain ⟨d, h1, hd⟩ := obind hd
  obtain ⟨z, h2, hd⟩ := obind hd
  have := asB_ok h2
  subst this
  refine ⟨A, H0, G, ρ, _, en, sm, h1, fun G1 H1 v x1 r1 => ?_⟩
  cases r1
  refine ⟨z, rfl, ?_⟩
  cases z with
  | true => exact ⟨A, H0, G1, ρ, c, en.ext x1, x1.s, by simpa [asB] using hd, fun G2 H2 v x2 r2 => k G2 H2 v (x1.trans x2) r2⟩
  | false =>
    have : c = .bl false := by simpa [asB] using hd.symm
    subst this
    exact k G1 H1 _ x1 (.bl false)
theorem dn_orV (ha : PE X a (tD C da)) (hb : PE X (.BoolOp .Or (b :: rest) pos) (tD C db)) : PE X (.BoolOp .Or (a :: b :: rest) pos) (tD C (vOr da db)) := pe_to (pe_or ha hb) fun σ H Q ⟨A, H0, G, ρ, c, en, sm, hd, k⟩ => by
  obtain ⟨d, h1, hd⟩ := obind hd
  obtain ⟨z, h2, hd⟩ := obind hd
  have := asB_ok h2
  subst this
  refine ⟨A, H0, G, ρ, _, en, sm, h1, fun G1 H1 v x1 r1 => ?_⟩
  cases r1
  refine ⟨z, rfl, ?_⟩
  cases z with
  | false => exact ⟨A, H0, G1, ρ, c, en.ext x1, x1.s, by simpa [asB] using hd, fun G2 H2 v x2 r2 => k G2 H2 v (x1.trans x2) r2⟩
  | true =>
    have : c = .bl true := by simpa [asB] using hd.symm
    subst this
    exact k G1 H1 _ x1 (.bl true)
theorem dn_not (ha : PE X a (tD C da)) : PE X (.UnaryOp .Not a pos) (tD C (d1 dNot da)) := pe_to (pe_not ha) fun σ H Q ⟨A, H0, G, ρ, c, en, sm, hd, k⟩ => by
  obtain ⟨d, h1, hd⟩ := obind hd
  unfold dNot at hd
  split at hd
  · cases hd
    exact ⟨A, H0, G, ρ, _, en, sm, h1, fun G1 H1 v x1 r1 => by cases r1; exact ⟨_, rfl, k G1 H1 _ x1 (.bl _)⟩⟩
  · cases hd
def dIfE (c : List Sl → Option Bool) (d e : List Sl → Option D) : List Sl → Option D := fun ρ => (c ρ).bind fun b => if b then d ρ else e ρ
theorem dn_ifExp {c : Expr} {dc : List Sl → Option Bool} (hc : PT X c (tB C dc)) (ha : PE X a (tD C da)) (hb : PE X b (tD C db)) : PE X (.IfExp c a b pos) (tD C (dIfE dc da db)) := pe_to (pe_ifExp hc ha hb) fun σ H Q ⟨A, H0, G, ρ, z, en, sm, hd, k⟩ => by
  obtain ⟨d, h1, hd⟩ := obind hd
  refine ⟨A, H0, G, ρ, d, en, sm, h1, fun G1 H1 v x1 r1 => ?_⟩
  obtain rfl : v = d := r1
  cases v with
  | true => exact ⟨A, H0, G1, ρ, z, en.ext x1, x1.s, by simpa [asB] using hd, fun G2 H2 v x2 r2 => k G2 H2 v (x1.trans x2) r2⟩
  | false => exact ⟨A, H0, G1, ρ, z, en.ext x1, x1.s, by simpa [asB] using hd, fun G2 H2 v x2 r2 => k G2 H2 v (x1.trans x2) r2⟩
/-! chains -/
def dChain (f g : D → D → Option D) (da db dc : List Sl → Option D) : List Sl → Option D := fun ρ => (da ρ).bind fun a => (db ρ).bind fun b => (f a b).bind fun z => (asB z).bind fun k => if k then (dc ρ).bind fun c => g b c else some (.bl false)
theorem is_chain {r r' : R2} {f g : D → D → Option D} (h : Is2 C r f) (h' : Is2 C r' g) (da db dc : List Sl → Option D) : ∀ σ H Q, tD C (dChain f g da db dc) σ H Q → tChain r r' (tD C da) (tD C db) (tD C dc) σ H Q := fun σ H Q ⟨A, H0, G, ρ, d, e, sm, hd, k⟩ => by
  obtain ⟨a, ha, hd⟩ := obind hd
  obtain ⟨b, hb, hd⟩ := obind hd
  obtain ⟨z, hz, hd⟩ := obind hd
  obtain ⟨c, hc, hd⟩ := obind hd
  have := asB_ok hc
  subst this
  refine ⟨A, H0, G, ρ, a, e, sm, ha, fun G1 H1 x x1 r1 => ⟨A, H0, G1, ρ, b, e.ext x1, x1.s, hb, fun G2 H2 y x2 r2 => ?_⟩⟩
  refine h A G2 H2 x y a b _ _ x2.s (r1.mono x2.g) r2 hz fun G3 H3 v x3 r3 => ?_
  cases r3
  refine ⟨c, rfl, ?_⟩
  cases c with
  | false =>
    have : d = .bl false := by simpa [asB] using hd.symm
    subst this
    exact k _ _ _ ((x1.trans x2).trans x3) (.bl false)
  | true =>
    obtain ⟨w, hw, hd⟩ := obind (by simpa [asB] using hd)
    exact ⟨A, H0, G3, ρ, w, ((e.ext x1).ext x2).ext x3, x3.s, hw, fun G4 H4 u x4 r4 => h' A G4 H4 y u b w d Q x4.s ((r2.mono x3.g).mono x4.g) r4 hd fun G5 H5 v x5 r5 => k _ _ _ ((((x1.trans x2).trans x3).trans x4).trans x5) r5⟩
theorem dt_chain {op op' : CmpOp} {r r' : R2} {f g : D → D → Option D} {c : Expr} {dc : List Sl → Option D} (h : Is2 C r f) (h' : Is2 C r' g) (ho : OpR X (compareOp op) r) (ho' : OpR X (compareOp op') r') (ha : PE X a (tD C da)) (hb : PE X b (tD C db)) (hc : PE X c (tD C dc))
    (hm : lastMarks [op, op'] [b, c] = false := by with_unfolding_all rfl) : PT X (.Compare a [op, op'] [b, c] pos) (tB C (dAsB (dChain f g da db dc))) := pt_to (pt_chain ho ho' ha hb hc hm) (test_of (is_chain h h' da db dc))
theorem dn_chain {op op' : CmpOp} {r r' : R2} {f g : D → D → Option D} {c : Expr} {dc : List Sl → Option D} (h : Is2 C r f) (h' : Is2 C r' g) (ho : OpR X (compareOp op) r) (ho' : OpR X (compareOp op') r') (ha : PE X a (tD C da)) (hb : PE X b (tD C db)) (hc : PE X c (tD C dc))
    (hm : lastMarks [op, op'] [b, c] = false := by with_unfolding_all rfl) : PE X (.Compare a [op, op'] [b, c] pos) (tD C (dChain f g da db dc)) := pe_to (pe_chain ho ho' ha hb hc hm) (is_chain h h' da db dc)
end
/-! ### calls -/
/-- the promise of a def that computes f -/
def SpD (C : Addr) (f : List D → Option D) : Sp := fun vs H Q _ => ∃ A G ds d, Cel A G H ∧ Same G H ∧ RpAll C A G vs ds ∧ f ds = some d ∧ ∀ G' H' v, Ext G H G' H' → Rp C A G' v d → Q v H'
def dCall (f : List D → Option D) (das : List Sl → Option (List D)) : List Sl → Option D := fun ρ => (das ρ).bind f
theorem dn_call {CX : CXT} {k : Nat} {f : Addr} {fd : FuncData} {ps : List Str} {g : List D → Option D} {E : XK} {x : Str} {p : Pos} {e : Expr} {es : List Expr} {das : List Sl → Option (List D)}
    (F : FnOk X.prog X.w X.K X.mg X.base CX k f fd ps (SpD C g)) (hr : Room k X.A) (hg : Gl X x) (hm : X.mg x = some (.ref f)) (hk : PySem.W.keepIn X.K (.ref f) = true) (hb : Binds X.K fd ps []) (hx : Passes CX X E)
    (ha : PA X (e :: es) (tA C das)) (hdb : (x == ("__debug__" : Str)) = false := by decide) (he : starEach (e :: es) X.env = (false, eval e X.env) :: starEach es X.env := by rfl) (hpl : (backTo pos (starEach es X.env)).any (·.1) = false := by rfl) :
    PE X (.Call (.Name x p) (e :: es) [] pos) (tD C (dCall g das)) :=
  pe_to (pe_call F hr hg hm hk hb .nil hx ha hdb he hpl) fun σ H Q ⟨A, H0, G, ρ, d, en, sm, hd, k⟩ => by
    obtain ⟨ds, h1, hd⟩ := obind hd
    exact ⟨A, H0, G, ρ, ds, en, sm, h1, fun G1 H1 vs x1 r1 => ⟨A, G1, ds, d, (en.ext x1).cel, x1.s, by rw [List.append_nil]; exact r1, hd, fun G' H' v x2 r2 => k G' H' v (x1.trans x2) r2⟩⟩
/-- a built-in function -/
def IsN (C : Addr) (r : List V → Hp → VK → Prop) (f : List D → Option D) : Prop := ∀ (A : List Addr) (G H : Hp) (xs : List V) (ds : List D) (d : D) (Q : VK), Same G H → RpAll C A G xs ds → f ds = some d → (∀ G' H' v, Ext G H G' H' → Rp C A G' v d → Q v H') → r xs H Q
theorem isN {r : List V → Hp → VK → Prop} {f : List D → Option D} (h : IsN C r f) (das : List Sl → Option (List D)) : ∀ σ H Q, tD C (dCall f das) σ H Q → tCB r (tA C das) σ H Q := fun σ H Q ⟨A, H0, G, ρ, d, en, sm, hd, k⟩ => by
  obtain ⟨ds, h1, hd⟩ := obind hd
  exact ⟨A, H0, G, ρ, ds, en, sm, h1, fun G1 H1 vs x1 r1 => h A G1 H1 vs ds d Q x1.s r1 hd fun G' H' v x2 r2 => k G' H' v (x1.trans x2) r2⟩
section
variable {x : Str} {p : Pos} {e : Expr} {es : List Expr} {das : List Sl → Option (List D)} {id T : String} {r : List V → Hp → VK → Prop} {f : List D → Option D}
theorem dn_callB (h : IsN C r f) (hc : CallR X (.builtin id) r) (hg : Gl X x) (hm : X.mg x = none) (hv : bootBuiltins x = some (.builtin id)) (ha : PA X (e :: es) (tA C das)) (hn : x ≠ "__name__" := by decide) (hdb : (x == ("__debug__" : Str)) = false := by decide)
    (he : starEach (e :: es) X.env = (false, eval e X.env) :: starEach es X.env := by rfl) (hpl : (backTo pos (starEach es X.env)).any (·.1) = false := by rfl) : PE X (.Call (.Name x p) (e :: es) [] pos) (tD C (dCall f das)) :=
  pe_to (pe_callB hc hg hm hv ha hn hdb he hpl) (isN h das)
theorem dn_callTy (h : IsN C r f) (hc : CallR X (.type T) r) (hg : Gl X x) (hm : X.mg x = none) (hv : bootBuiltins x = some (.type T)) (ha : PA X (e :: es) (tA C das)) (hn : x ≠ "__name__" := by decide) (hdb : (x == ("__debug__" : Str)) = false := by decide)
    (he : starEach (e :: es) X.env = (false, eval e X.env) :: starEach es X.env := by rfl) (hpl : (backTo pos (starEach es X.env)).any (·.1) = false := by rfl) : PE X (.Call (.Name x p) (e :: es) [] pos) (tD C (dCall f das)) :=
  pe_to (pe_callTy hc hg hm hv ha hn hdb he hpl) (isN h das)
theorem dn_callBfun (h : IsN C r f) (hc : CallR X (.builtin id) r) (hg : Gl X x) (hm : X.mg x = some (.builtin id)) (ha : PA X (e :: es) (tA C das)) (hdb : (x == ("__debug__" : Str)) = false := by decide)
    (he : starEach (e :: es) X.env = (false, eval e X.env) :: starEach es X.env := by rfl) (hpl : (backTo pos (starEach es X.env)).any (·.1) = false := by rfl) : PE X (.Call (.Name x p) (e :: es) [] pos) (tD C (dCall f das)) :=
  pe_to (pe_callBfun hc hg hm ha hdb he hpl) (isN h das)
end
def fLen : List D → Option D
  | [.tup ds] => some (.int ds.length)
  | [.lst ds] => some (.int ds.length)
  | _ => none
theorem is_len {K : PySem.W.Frag} : IsN C (fun xs H Q => ∃ p ys, xs = [.ref p] ∧ (SqL K H p ys ∨ SqT K H p ys) ∧ Q (.int ys.length) H) fLen := fun A G H xs ds d Q sm r hd k => by
  unfold fLen at hd
  split at hd
  · cases hd
    cases r with
    | cons r1 r2 =>
      cases r2
      cases r1 with
      | tup e ra => exact ⟨_, _, rfl, .inr (.of (sm _ _ e)), by rw [ra.len]; exact k G H _ (.refl sm) (.int _)⟩
  · cases hd
    cases r with
    | cons r1 r2 =>
      cases r2
      cases r1 with
      | lst e ra => exact ⟨_, _, rfl, .inl (.of (sm _ _ e)), by rw [ra.len]; exact k G H _ (.refl sm) (.int _)⟩
  · cases hd
def fAbs : List D → Option D
  | [.int i] => some (.int (if i < 0 then -i else i))
  | _ => none
theorem is_abs : IsN C (fun xs H Q => ∃ i, xs = [.int i] ∧ Q (.int (if i < 0 then -i else i)) H) fAbs := fun A G H xs ds d Q sm r hd k => by
  unfold fAbs at hd
  split at hd
  · cases hd
    cases r with
    | cons r1 r2 => cases r2; cases r1; exact ⟨_, rfl, k G H _ (.refl sm) (.int _)⟩
  · cases hd
def fGcd : List D → Option D
  | [.int a, .int b] => some (.int ((Nat.gcd a.natAbs b.natAbs : Nat) : Int))
  | _ => none
theorem is_gcd : IsN C rGcd fGcd := fun A G H xs ds d Q sm r hd k => by
  unfold fGcd at hd
  split at hd
  · cases hd
    cases r with
    | cons r1 r2 => cases r2 with | cons r2 r3 => cases r3; cases r1; cases r2; exact ⟨_, _, rfl, k G H _ (.refl sm) (.int _)⟩
  · cases hd
def fTuple : List D → Option D
  | [.tup ds] => some (.tup ds)
  | [.lst ds] => some (.tup ds)
  | _ => none
theorem is_tuple {K : PySem.W.Frag} : IsN C (fun xs H Q => ∃ p ys, xs = [.ref p] ∧ ((SqL K H p ys ∧ ∀ l, H l = none → Q (.ref l) (upd H l (.tup ys))) ∨ (SqT K H p ys ∧ Q (.ref p) H))) fTuple := fun A G H xs ds d Q sm r hd k => by
  unfold fTuple at hd
  split at hd
  · cases hd
    cases r with
    | cons r1 r2 =>
      cases r2
      cases r1 with
      | tup e ra => exact ⟨_, _, rfl, .inr ⟨.of (sm _ _ e), k G H _ (.refl sm) (.tup e ra)⟩⟩
  · cases hd
    cases r with
    | cons r1 r2 =>
      cases r2
      cases r1 with
      | lst e ra => exact ⟨_, _, rfl, .inl ⟨.of (sm _ _ e), fun l nl => k _ _ _ (.new sm nl _) (.tup upd_same (ra.mono (same_new (none_of sm nl) _)))⟩⟩
  · cases hd
def fInt : List D → Option D
  | [.int i] => some (.int i)
  | [.bl b] => some (.int (if b then 1 else 0))
  | _ => none
theorem is_int : IsN C (fun xs H Q => (∃ i, xs = [.int i] ∧ Q (.int i) H) ∨ ∃ k, xs = [.bl k] ∧ Q (.int (if k then 1 else 0)) H) fInt := fun A G H xs ds d Q sm r hd k => by
  unfold fInt at hd
  split at hd
  · cases hd
    cases r with
    | cons r1 r2 => cases r2; cases r1; exact .inl ⟨_, rfl, k G H _ (.refl sm) (.int _)⟩
  · cases hd
    cases r with
    | cons r1 r2 => cases r2; cases r1; exact .inr ⟨_, rfl, k G H _ (.refl sm) (.int _)⟩
  · cases hd
/-! lists of intL, of bools -/
def intL : List D → Option (List Int)
  | [] => some []
  | .int i :: ds => (intL ds).bind fun r => some (i :: r)
  | _ :: _ => none
theorem intL_rp {G : Hp} : ∀ {ds : List D} {vs : List V} {ns : List Int}, RpAll C A G vs ds → intL ds = some ns → vs = ns.map V.int
  | [], _, _, r, h => by cases r; cases h; rfl
  | d :: ds, _, _, r, h => by
    cases r with
    | cons r1 r2 =>
      unfold intL at h
      split at h
      · rename_i q; cases q
      · rename_i q
        cases q
        obtain ⟨ns, h1, h2⟩ := obind h
        cases h2
        cases r1
        rw [intL_rp r2 h1]
        rfl
      · cases h
def maxI : Int → List Int → Int
  | m, [] => m
  | m, n :: ns => maxI (if n > m then n else m) ns
def minI : Int → List Int → Int
  | m, [] => m
  | m, n :: ns => minI (if n < m then n else m) ns
theorem maxI_ok : ∀ (ns : List Int) (m : Int), (maxI m ns = m ∨ maxI m ns ∈ ns) ∧ m ≤ maxI m ns ∧ ∀ y ∈ ns, y ≤ maxI m ns
  | [], m => ⟨.inl rfl, Int.le_refl _, fun _ h => by cases h⟩
  | n :: ns, m => by
    unfold maxI
    obtain ⟨h1, h2, h3⟩ := maxI_ok ns (if n > m then n else m)
    refine ⟨?_, ?_, fun y hy => ?_⟩
    · rcases h1 with h1 | h1
      · rw [h1]; split
        · exact .inr List.mem_cons_self
        · exact .inl rfl
      · exact .inr (List.mem_cons_of_mem _ h1)
    · refine Int.le_trans ?_ h2; split <;> omega
    · rcases List.mem_cons.mp hy with rfl | hy
      · refine Int.le_trans ?_ h2; split <;> omega
      · exact h3 y hy
theorem minI_ok : ∀ (ns : List Int) (m : Int), (minI m ns = m ∨ minI m ns ∈ ns) ∧ minI m ns ≤ m ∧ ∀ y ∈ ns, minI m ns ≤ y
  | [], m => ⟨.inl rfl, Int.le_refl _, fun _ h => by cases h⟩
  | n :: ns, m => by
    unfold minI
    obtain ⟨h1, h2, h3⟩ := minI_ok ns (if n < m then n else m)
    refine ⟨?_, ?_, fun y hy => ?_⟩
    · rcases h1 with h1 | h1
      · rw [h1]; split
        · exact .inr List.mem_cons_self
        · exact .inl rfl
      · exact .inr (List.mem_cons_of_mem _ h1)
    · refine Int.le_trans h2 ?_; split <;> omega
    · rcases List.mem_cons.mp hy with rfl | hy
      · refine Int.le_trans h2 ?_; split <;> omega
      · exact h3 y hy
def max1 : List Int → Option D
  | [] => none
  | n :: ns => some (.int (maxI n ns))
def min1 : List Int → Option D
  | [] => none
  | n :: ns => some (.int (minI n ns))
def fMax : List D → Option D
  | [.int i, .int j] => some (.int (if j > i then j else i))
  | [.lst ds] => (intL ds).bind max1
  | _ => none
def fMin : List D → Option D
  | [.int i, .int j] => some (.int (if j < i then j else i))
  | [.lst ds] => (intL ds).bind min1
  | _ => none
def rMaxA (K : PySem.W.Frag) : List V → Hp → VK → Prop := fun xs H Q => (∃ i j, xs = [.int i, .int j] ∧ Q (.int (if j > i then j else i)) H) ∨ rMax K xs H Q
def rMinA (K : PySem.W.Frag) : List V → Hp → VK → Prop := fun xs H Q => (∃ i j, xs = [.int i, .int j] ∧ Q (.int (if j < i then j else i)) H) ∨ rMin K xs H Q
theorem is_max {K : PySem.W.Frag} : IsN C (rMaxA K) fMax := fun A G H xs ds d Q sm r hd k => by
  unfold fMax at hd
  split at hd
  · cases hd
    cases r with
    | cons r1 r2 => cases r2 with | cons r2 r3 => cases r3; cases r1; cases r2; exact .inl ⟨_, _, rfl, k G H _ (.refl sm) (.int _)⟩
  · obtain ⟨ns, h1, hd⟩ := obind hd
    cases r with
    | cons r1 r2 =>
      cases r2
      cases r1 with
      | lst e ra =>
        have hv := intL_rp ra h1
        subst hv
        cases ns with
        | nil => cases hd
        | cons n ns =>
          cases hd
          refine .inr ⟨_, n :: ns, rfl, .of (sm _ _ e), Nat.zero_lt_succ _, fun m hm hb => ?_⟩
          have hh := maxI_ok ns n
          have : m = maxI n ns := by
            apply Int.le_antisymm
            · rcases List.mem_cons.mp hm with rfl | hm
              · exact hh.2.1
              · exact hh.2.2 m hm
            · rcases hh.1 with z | z
              · rw [z]; exact hb n List.mem_cons_self
              · exact hb _ (List.mem_cons_of_mem _ z)
          subst this
          exact k G H _ (.refl sm) (.int _)
  · cases hd
theorem is_min {K : PySem.W.Frag} : IsN C (rMinA K) fMin := fun A G H xs ds d Q sm r hd k => by
  unfold fMin at hd
  split at hd
  · cases hd
    cases r with
    | cons r1 r2 => cases r2 with | cons r2 r3 => cases r3; cases r1; cases r2; exact .inl ⟨_, _, rfl, k G H _ (.refl sm) (.int _)⟩
  · obtain ⟨ns, h1, hd⟩ := obind hd
    cases r with
    | cons r1 r2 =>
      cases r2
      cases r1 with
      | lst e ra =>
        have hv := intL_rp ra h1
        subst hv
        cases ns with
        | nil => cases hd
        | cons n ns =>
          cases hd
          refine .inr ⟨_, n :: ns, rfl, .of (sm _ _ e), Nat.zero_lt_succ _, fun m hm hb => ?_⟩
          have hh := minI_ok ns n
          have : m = minI n ns := by
            apply Int.le_antisymm
            · rcases hh.1 with z | z
              · rw [z]; exact hb n List.mem_cons_self
              · exact hb _ (List.mem_cons_of_mem _ z)
            · rcases List.mem_cons.mp hm with rfl | hm
              · exact hh.2.1
              · exact hh.2.2 m hm
          subst this
          exact k G H _ (.refl sm) (.int _)
  · cases hd
def fSum : List D → Option D
  | [.lst ds] => (intL ds).bind fun ns => some (.int ns.sum)
  | _ => none
theorem is_sum {K : PySem.W.Frag} : IsN C (rSum K) fSum := fun A G H xs ds d Q sm r hd k => by
  unfold fSum at hd
  split at hd
  · obtain ⟨ns, h1, hd⟩ := obind hd
    cases hd
    cases r with
    | cons r1 r2 =>
      cases r2
      cases r1 with
      | lst e ra =>
        have hv := intL_rp ra h1
        subst hv
        exact ⟨_, ns, rfl, .of (sm _ _ e), k G H _ (.refl sm) (.int _)⟩
  · cases hd
/-! x.bit_length() -/
def fBits : D → Option D
  | .int i => some (.int (Builtin.Int.intBits i : Nat))
  | _ => none
theorem dn_bits {o : Expr} {apos : Pos} {d : List Sl → Option D} (ho : PE X o (tD C d)) (hbase : attributeBase o "bit_length" X.env (eval o X.env) = eval o X.env := by rfl) (hline : (apos.endLine == pos.line) = true := by rfl) : PE X (.Call (.Attribute o "bit_length" apos) [] [] pos) (tD C (d1 fBits d)) :=
  pe_to (pe_bits ho hbase hline) fun σ H Q ⟨A, H0, G, ρ, z, en, sm, hd, k⟩ => by
    obtain ⟨a, h1, hd⟩ := obind hd
    unfold fBits at hd
    split at hd
    · cases hd
      exact ⟨A, H0, G, ρ, _, en, sm, h1, fun G1 H1 v x1 r1 => by cases r1; exact ⟨_, rfl, k G1 H1 _ x1 (.int _)⟩⟩
    · cases hd
end
end DN

/-! zip of a tuple and a list -/
namespace KW
open PySem PySem.Spec PyProof.Rows L2
/-- the tuple at a and the list at b as they stand at each turn -/
def ItM (K : PySem.W.Frag) (a b : Addr) : It where
  go := fun i H => ∃ xs ys x y, SqT K H a xs ∧ SqL K H b ys ∧ xs[i]? = some x ∧ ys[i]? = some y
  yld := fun i H v H' => ∃ T x y, v = .ref T ∧ H T = none ∧ H' = upd H T (.tup [x, y]) ∧ (∀ us, SqT K H a us → us[i]? = some x) ∧ (∀ us, SqL K H b us → us[i]? = some y)
  stop := fun i H => ∃ xs ys, SqT K H a xs ∧ SqL K H b ys ∧ i ≤ xs.length ∧ i ≤ ys.length ∧ (i = xs.length ∨ i = ys.length)
/-- the five cells of such a zip -/
def ZCells (z t o i j : Addr) : List Addr := [z, t, o, i, j]
theorem zcells {z t o i j c : Addr} (h : c ∈ ZCells z t o i j) : c = z ∨ c = t ∨ c = o ∨ c = i ∨ c = j := by simpa [ZCells] using h
def ZState (a b z t o i j : Addr) (k : Nat) (h : Heap) : Prop :=
  IsZip h z t o .none ∧ IsTupOf2 h t (.ref i) (.ref j) ∧ (∃ u v, IsTupOf2 h o u v) ∧ h.IsTupleIter i a k ∧ h.IsListIter j b k
theorem zsep {z t o i j a b : Addr} (D : ZipApart z t o i j a b) : ZipSep2 z t o i j [i, a] [j, b] := by
  have e1 := D.i1z; have e2 := D.l1z; have e3 := D.TOi1; have e4 := D.l1TO; have e5 := D.i2z; have e6 := D.l2z; have e7 := D.TOi2; have e8 := D.l2TO; have e9 := D.i12; have e10 := D.l2i1; have e11 := D.l1i2
  have nin : ∀ {c p q : Addr}, c ≠ p → c ≠ q → c ∉ [p, q] := fun h1 h2 hm => by
    rcases List.mem_cons.mp hm with q | q
    · exact h1 q
    · exact h2 (List.mem_singleton.mp q)
  exact { TIz := D.TIz, TOz := D.TOz, TITO := D.TITO, TIi1 := D.TIi1, TIi2 := D.TIi2, mem1 := List.mem_cons_self, mem2 := List.mem_cons_self, zf1 := nin (Ne.symm e1) (Ne.symm e2), Tf1 := nin e3 (Ne.symm e4), zf2 := nin (Ne.symm e5) (Ne.symm e6), Tf2 := nin e7 (Ne.symm e8), sep1_2 := nin e9 (Ne.symm e10), sep2_1 := nin (Ne.symm e9) (Ne.symm e11) }
section
variable {P : Program} {w : World} {K : PySem.W.Frag} {es : List Expr} {n : Nat} {tp : Pos} {a b z t o i j : Addr}
theorem turnM (D : ZipApart z t o i j a b) : Turn P w K (.Tuple es n tp) (ItM K a b) (ZCells z t o i j) z (ZState a b z t o i j) := by
  refine { mem := by simp [ZCells], obj := ?obj, keep := ?keep, item := ?item, done := ?done, self := fun _ _ _ _ _ st h => wpAny_pyIter_zip st.1 h }
  case obj =>
    rintro k h ⟨s1, s2, ⟨u, v, s3⟩, ⟨o1, p1, _, p2⟩, ⟨o2, p3, _, p4⟩⟩ c hc
    rcases zcells hc with rfl | rfl | rfl | rfl | rfl
    · exact ⟨_, s1, fun v q => nomatch q⟩
    · exact ⟨_, s2, fun v q => nomatch q⟩
    · exact ⟨_, s3, fun v q => nomatch q⟩
    · exact ⟨o1, p1, fun v q => by rw [p2] at q; cases q⟩
    · exact ⟨o2, p3, fun v q => by rw [p4] at q; cases q⟩
  case keep =>
    rintro k h h' ⟨s1, s2, ⟨u, v, s3⟩, s4, s5⟩ kp
    have m : ∀ c, (c = z ∨ c = t ∨ c = o ∨ c = i ∨ c = j) → c ∈ ZCells z t o i j := fun c q => by simpa [ZCells] using q
    exact ⟨kp _ (m _ (.inl rfl)) _ s1, kp _ (m _ (.inr (.inl rfl))) _ s2, ⟨u, v, kp _ (m _ (.inr (.inr (.inl rfl)))) _ s3⟩, s4.at fun _ q => kp _ (m _ (.inr (.inr (.inr (.inl rfl))))) _ q, s5.at fun _ q => kp _ (m _ (.inr (.inr (.inr (.inr rfl))))) _ q⟩
  case item =>
    rintro X rfl rfl rfl hc k pins s σ H E I hf ⟨s1, s2, ⟨u, v, s3⟩, s4, s5⟩ ⟨xs, ys, x, y, qx, qy, gx, gy⟩
    obtain ⟨its, r1, p1, _⟩ := I.tuple qx
    obtain ⟨jts, r2, p2, _⟩ := I.list qy
    obtain ⟨w1, f1, rw1⟩ := r1.get gx
    obtain ⟨w2, f2, rw2⟩ := r2.get gy
    have b1 : k < its.toArray.size := by rw [List.size_toArray]; exact (List.getElem?_eq_some_iff.mp f1).1
    have b2 : k < jts.toArray.size := by rw [List.size_toArray]; exact (List.getElem?_eq_some_iff.mp f2).1
    have zlt := Heap.lt_size s1
    have hh : X.A.in1.handled = none := I.ok.hd hc
    refine wpAny_pyNext_zipD2_item (zsep D) (Draws.tuple hh i a D.l1i1 its.toArray) (Draws.list hh j b D.l2i2 jts.toArray) s1 s2 s3 ⟨s4, p1⟩ ⟨s5, p2.isList⟩ b1 b2 fun x1 x2 h' tk e1 e2 c1 c2 c3 c4 c5 c6 c7 => ?_
    have ex1 : x1 = w1 := by
      have : its[k]? = some x1 := by simpa using e1
      rw [f1] at this; exact (Option.some.inj this).symm
    have ex2 : x2 = w2 := by
      have : jts[k]? = some x2 := by simpa using e2
      rw [f2] at this; exact (Option.some.inj this).symm
    subst ex1 ex2
    refine ⟨_, rfl, wpAny_letOwnedTupleGo_zip (s := { s with heap := h', toks := tk }) c1 fun h2 z2 sb => ?_⟩
    have g2 : ∀ c ob, c ≠ z → h'.get? c = some ob → h2.get? c = some ob := fun c ob ne q => (sb.2 c ne).trans q
    have T2 : IsTupOf2 h2 s.heap.objs.size x1 x2 := g2 _ _ (Nat.ne_of_gt zlt) c5
    have nw : ObjOk X.prog X.w (upd H s.heap.objs.size (.tup [x, y])) h2 s.heap.objs.size (.tup [x, y]) := ⟨(by show 2 ≤ sizeLine; decide), [x1, x2], .cons rw1 (.cons rw2 .nil), ⟨_, T2, rfl, _, rfl⟩⟩
    have I1 : Inv X pins σ (upd H s.heap.objs.size (.tup [x, y])) { s with heap := h2, toks := tk } := I.turnedNew (ch := ZCells z t o i j) (fun c ob hb q => by
      have ne : ∀ d, d ∈ ZCells z t o i j → c ≠ d := fun d hd e => hb (e ▸ hd)
      exact g2 _ _ (ne _ (by simp [ZCells])) (c7 c ob (ne _ (by simp [ZCells])) (ne _ (by simp [ZCells])) (ne _ (by simp [ZCells])) (ne _ (by simp [ZCells])) q)) hf (Nat.le_refl _) nw
    refine ⟨.ref s.heap.objs.size, _, I1, rfl, ⟨_, x, y, rfl, I.hok.fresh (Nat.le_refl _), rfl, fun us hu => by rw [I.tuple_inj hu qx]; exact gx, fun us hu => by rw [I.list_inj hu qy]; exact gy⟩, ⟨z2, g2 _ _ D.TIz (c7 _ _ D.TIz D.TITO D.TIi1 D.TIi2 s2), ⟨x1, x2, g2 _ _ D.TOz c2⟩, c3.1.at fun _ q => g2 _ _ D.i1z q, c4.1.at fun _ q => g2 _ _ D.i2z q⟩, fun c hcm => ?_⟩
    have lt : c < s.heap.objs.size := by
      rcases zcells hcm with rfl | rfl | rfl | rfl | rfl
      · exact zlt
      · exact Heap.lt_size s2
      · exact Heap.lt_size s3
      · obtain ⟨_, q, _⟩ := s4; exact Heap.lt_size q
      · obtain ⟨_, q, _⟩ := s5; exact Heap.lt_size q
    rw [upd_ne (Nat.ne_of_lt lt)]
    exact (hf c hcm).1
  case done =>
    rintro X rfl rfl rfl hc k pins s σ H E I hf ⟨s1, s2, ⟨u, v, s3⟩, s4, s5⟩ ⟨xs, ys, qx, qy, l1, l2, l3⟩
    obtain ⟨its, r1, p1, _⟩ := I.tuple qx
    obtain ⟨jts, r2, p2, _⟩ := I.list qy
    have n1 : its.toArray.size = xs.length := by rw [List.size_toArray]; exact r1.length.symm
    have n2 : jts.toArray.size = ys.length := by rw [List.size_toArray]; exact r2.length.symm
    have hh : X.A.in1.handled = none := I.ok.hd hc
    refine wpAny_pyNext_zipD2_end (zsep D) (Draws.tuple hh i a D.l1i1 its.toArray) (Draws.list hh j b D.l2i2 jts.toArray) s1 s2 s3 ⟨s4, p1⟩ ⟨s5, p2.isList⟩ (by omega) (by omega) (by omega) fun h' tk kp => ⟨rfl, I.turnedL (ch := ZCells z t o i j) (fun c ob hb q => ?_) hf⟩
    have ne : ∀ d, d ∈ ZCells z t o i j → c ≠ d := fun d hd e => hb (e ▸ hd)
    exact kp c ob (ne _ (by simp [ZCells])) (ne _ (by simp [ZCells])) (ne _ (by simp [ZCells])) (ne _ (by simp [ZCells])) q
end
def iZipM (K : PySem.W.Frag) (ta : TA) : TI := fun σ H R => ta σ H fun vs H1 => ∃ a b xs ys, vs = [V.ref a, V.ref b] ∧ SqT K H1 a xs ∧ SqL K H1 b ys ∧ R (ItM K a b) H1
theorem pi_zipM {X : Cx} {e1 e2 : Expr} {ta : TA} {p pos tp : Pos} {es : List Expr} {n : Nat} (hg : Gl X "zip") (hm : X.mg "zip" = none) (ha : PA X [e1, e2] ta)
    (hs : starEach [e1, e2] X.env = (false, eval e1 X.env) :: starEach [e2] X.env := by rfl) (hb : (backTo pos (starEach [e2] X.env)).any (·.1) = false := by rfl) : PI X (.Tuple es n tp) (.Call (.Name "zip" p) [e1, e2] [] pos) (iZipM X.K ta) := by
  constructor
  intro pins s σ H R I h
  refine Call_ (ld_blt I hg hm PyProof.Rows.boot_zip (PyProof.Rows.callWith_type1 (thn (ha.run pos pins s σ H _ I h) ?_) hs hb))
  rintro us s1 ⟨vs, H1, I1, r1, a, b, xs, ys, rfl, qx, qy, q⟩
  obtain ⟨v1, v2, rfl, rv1, rv2⟩ := vals2 r1
  cases rv1
  cases rv2
  obtain ⟨its, _, p1, _⟩ := I1.tuple qx
  obtain ⟨jts, _, p2, _⟩ := I1.list qy
  obtain ⟨o1, g1, _⟩ := id p1
  refine zip_begins2 (begins_tuple a its.toArray) (begins_list b jts.toArray) p1 p2.isList fun h' hz ht ho c1 c2 hsz kp => wpAny_pyIter_zip hz ?_
  refine ⟨s1.heap.objs.size + 4, ZCells _ _ _ _ _, _, _, H1, rfl, I1.kept (t' := s1.toks) kp, turnM (PySem.W.ktu_apart s1.heap.objs.size a b (Heap.lt_size g1) p2.lt), ⟨hz, ht, ⟨_, _, ho⟩, ⟨_, c1, rfl, rfl⟩, ⟨_, c2, rfl, rfl⟩⟩, fun c hc => ?_, q⟩
  have le : s1.heap.objs.size ≤ c := by
    rcases zcells hc with rfl | rfl | rfl | rfl | rfl
    · exact Nat.le_add_right _ _
    · exact Nat.le_add_right _ _
    · exact Nat.le_add_right _ _
    · exact Nat.le_refl _
    · exact Nat.le_add_right _ _
  exact I1.fpOk le (I1.hok.fresh le)
end KW

set_option maxHeartbeats 1000000
/-! what a loop walks, targets, comprehensions by what they compute -/
namespace DN
open PySem PySem.Spec PyProof.Rows L2 KG
section
variable {X : Cx} {C : Addr} {A : List Addr} {pos : Pos}
/-! ### sources -/
theorem pi_or {tg it : Expr} {w1 w2 : TI} (h1 : PI X tg it w1) (h2 : PI X tg it w2) : PI X tg it (fun σ H R => w1 σ H R ∨ w2 σ H R) :=
  ⟨fun pins s σ H R I h => h.elim (h1.run pins s σ H R I) (h2.run pins s σ H R I)⟩
def seqD : D → Option (List D)
  | .tup ds => some ds
  | .lst ds => some ds
  | _ => none
def iSeq (d : List Sl → Option D) : List Sl → Option (List D) := fun ρ => (d ρ).bind seqD
theorem wk_list {K : PySem.W.Frag} {G : Hp} {a : Addr} {vs : List V} {ds : List D} (e : G a = some (.lst vs)) (r : RpAll C A G vs ds) : Wk C A (Itl K a) G ds := fun i G2 H2 s1 s2 => by
  have eq : SqL K H2 a vs := .of (s2 _ _ (s1 _ _ e))
  refine ⟨fun z => ⟨vs, eq, by rw [r.len]; omega⟩, fun d hd => ?_⟩
  obtain ⟨v, h1, h2⟩ := r.get hd
  refine ⟨⟨vs, v, eq, h1⟩, fun x H3 y => ?_⟩
  obtain ⟨e1, y⟩ := y
  subst e1
  have := y _ eq
  rw [h1] at this; cases this
  exact ⟨G2, .refl s2, h2.mono s1⟩
theorem wk_tup {K : PySem.W.Frag} {G : Hp} {a : Addr} {vs : List V} {ds : List D} (e : G a = some (.tup vs)) (r : RpAll C A G vs ds) : Wk C A (Itt K a) G ds := fun i G2 H2 s1 s2 => by
  have eq : SqT K H2 a vs := .of (s2 _ _ (s1 _ _ e))
  refine ⟨fun z => ⟨vs, eq, by rw [r.len]; omega⟩, fun d hd => ?_⟩
  obtain ⟨v, h1, h2⟩ := r.get hd
  refine ⟨⟨vs, v, eq, h1⟩, fun x H3 y => ?_⟩
  obtain ⟨e1, y⟩ := y
  subst e1
  have := y _ eq
  rw [h1] at this; cases this
  exact ⟨G2, .refl s2, h2.mono s1⟩
theorem di_seq {tg l : Expr} {d : List Sl → Option D} (hl : PE X l (tD C d)) : PI X tg l (tI C (iSeq d)) :=
  pi_to (pi_or (pi_list hl) (pi_tup hl)) fun σ H R ⟨A, H0, G, ρ, z, en, sm, hd, k⟩ => by
    obtain ⟨a, h1, hd⟩ := obind hd
    unfold seqD at hd
    split at hd
    · cases hd
      refine .inr ⟨A, H0, G, ρ, _, en, sm, h1, fun G1 H1 x x1 r1 => ?_⟩
      cases r1 with
      | tup e r => exact ⟨_, rfl, ⟨_, .of (x1.s _ _ e)⟩, k _ G1 H1 x1 (wk_tup e r)⟩
    · cases hd
      refine .inl ⟨A, H0, G, ρ, _, en, sm, h1, fun G1 H1 x x1 r1 => ?_⟩
      cases r1 with
      | lst e r => exact ⟨_, rfl, ⟨_, .of (x1.s _ _ e)⟩, k _ G1 H1 x1 (wk_list e r)⟩
    · cases hd
/-! reversed -/
def iRevD (d : List Sl → Option D) : List Sl → Option (List D) := fun ρ => (d ρ).bind fun x => (seqD x).bind fun ds => some ds.reverse
theorem rev_get {α : Type} {l : List α} {i : Nat} {x : α} (h : l.reverse[i]? = some x) : i < l.length ∧ l[l.length - 1 - i]? = some x := by
  have hi : i < l.length := by
    have := (List.getElem?_eq_some_iff.mp h).1
    rwa [List.length_reverse] at this
  rw [List.getElem?_reverse hi] at h
  exact ⟨hi, h⟩
theorem wk_revL {K : PySem.W.Frag} {G : Hp} {a : Addr} {vs : List V} {ds : List D} (e : G a = some (.lst vs)) (r : RpAll C A G vs ds) : Wk C A (Itv K a vs.length) G ds.reverse := fun i G2 H2 s1 s2 => by
  have eq : SqL K H2 a vs := .of (s2 _ _ (s1 _ _ e))
  have hl := r.len
  refine ⟨fun z => by show vs.length ≤ i; rw [z, List.length_reverse]; omega, fun d hd => ?_⟩
  obtain ⟨hi, hd⟩ := rev_get hd
  obtain ⟨v, h1, h2⟩ := r.get hd
  rw [← hl] at h1
  refine ⟨⟨by omega, vs, v, eq, h1⟩, fun x H3 y => ?_⟩
  obtain ⟨e1, y⟩ := y
  subst e1
  have := y _ eq
  rw [h1] at this; cases this
  exact ⟨G2, .refl s2, h2.mono s1⟩
theorem wk_revT {K : PySem.W.Frag} {G : Hp} {a : Addr} {vs : List V} {ds : List D} (e : G a = some (.tup vs)) (r : RpAll C A G vs ds) : Wk C A (RT.ItvT K a vs.length) G ds.reverse := fun i G2 H2 s1 s2 => by
  have eq : SqT K H2 a vs := .of (s2 _ _ (s1 _ _ e))
  have hl := r.len
  refine ⟨fun z => by show vs.length ≤ i; rw [z, List.length_reverse]; omega, fun d hd => ?_⟩
  obtain ⟨hi, hd⟩ := rev_get hd
  obtain ⟨v, h1, h2⟩ := r.get hd
  rw [← hl] at h1
  refine ⟨⟨by omega, vs, v, eq, h1⟩, fun x H3 y => ?_⟩
  obtain ⟨e1, y⟩ := y
  subst e1
  have := y _ eq
  rw [h1] at this; cases this
  exact ⟨G2, .refl s2, h2.mono s1⟩
theorem di_rev {tg e : Expr} {p : Pos} {d : List Sl → Option D} (hg : Gl X "reversed") (hm : X.mg "reversed" = none) (he : PE X e (tD C d)) (hs : starEach [e] X.env = (false, eval e X.env) :: starEach [] X.env := by rfl) : PI X tg (.Call (.Name "reversed" p) [e] [] pos) (tI C (iRevD d)) :=
  pi_to (RT.pi_revA hg hm he hs) fun σ H R ⟨A, H0, G, ρ, z, en, sm, hd, k⟩ => by
    obtain ⟨a, h1, hd⟩ := obind hd
    obtain ⟨ds, h2, hd⟩ := obind hd
    cases hd
    refine ⟨A, H0, G, ρ, a, en, sm, h1, fun G1 H1 x x1 r1 => ?_⟩
    unfold seqD at h2
    split at h2
    · cases h2
      cases r1 with
      | tup e r => exact ⟨_, _, rfl, .inr ⟨.of (x1.s _ _ e), k _ G1 H1 x1 (wk_revT e r)⟩⟩
    · cases h2
      cases r1 with
      | lst e r => exact ⟨_, _, rfl, .inl ⟨.of (x1.s _ _ e), k _ G1 H1 x1 (wk_revL e r)⟩⟩
    · cases h2
/-! range -/
def upI (lo : Int) : Nat → List D
  | 0 => []
  | n + 1 => .int lo :: upI (lo + 1) n
theorem upI_len : ∀ (n : Nat) (lo : Int), (upI lo n).length = n
  | 0, _ => rfl
  | n + 1, lo => by unfold upI; rw [List.length_cons, upI_len n]
theorem upI_get : ∀ (n : Nat) (lo : Int) (i : Nat) (d : D), (upI lo n)[i]? = some d → d = .int (lo + i)
  | 0, _, _, _, h => by simp [upI] at h
  | n + 1, lo, 0, d, h => by
    unfold upI at h
    simp at h
    rw [← h]; simp
  | n + 1, lo, i + 1, d, h => by
    unfold upI at h
    have := upI_get n (lo + 1) i d (by simpa using h)
    rw [this]
    congr 1
    omega
theorem wk_range {G : Hp} (lo : Int) (n : Nat) : Wk C A (Itr lo n) G (upI lo n) := fun i G2 H2 s1 s2 => by
  refine ⟨fun z => by show n ≤ i; rw [z, upI_len]; exact Nat.le_refl _, fun d hd => ?_⟩
  have hi : i < n := by
    have := (List.getElem?_eq_some_iff.mp hd).1
    rwa [upI_len] at this
  refine ⟨hi, fun x H3 y => ?_⟩
  obtain ⟨e1, e2⟩ := y
  subst e1 e2
  rw [upI_get n lo i d hd]
  exact ⟨G2, .refl s2, .int _⟩
def rngB : Int := 4611686018427387904
def inR (i : Int) : Bool := decide (-rngB ≤ i) && decide (i < rngB)
theorem inR_ok {i : Int} (h : inR i = true) : -(2 ^ 62) ≤ i ∧ i < 2 ^ 62 := by
  unfold inR at h
  rw [Bool.and_eq_true] at h
  have e : (2 : Int) ^ 62 = rngB := by decide
  rw [e]
  exact ⟨of_decide_eq_true h.1, of_decide_eq_true h.2⟩
def r1D : List D → Option (List D)
  | [.int j] => if inR j then some (upI 0 j.toNat) else none
  | _ => none
def r2D : List D → Option (List D)
  | [.int i, .int j] => if inR i && inR j then some (upI i (j - i).toNat) else none
  | _ => none
def iRng (f : List D → Option (List D)) (das : List Sl → Option (List D)) : List Sl → Option (List D) := fun ρ => (das ρ).bind f
theorem di_range1 {tg a : Expr} {p : Pos} {das : List Sl → Option (List D)} (hg : Gl X "range") (hm : X.mg "range" = none) (ha : PA X [a] (tA C das)) (hs : starEach [a] X.env = [(false, eval a X.env)] := by rfl) : PI X tg (.Call (.Name "range" p) [a] [] pos) (tI C (iRng r1D das)) :=
  pi_to (pi_range1 hg hm ha hs) fun σ H R ⟨A, H0, G, ρ, z, en, sm, hd, k⟩ => by
    obtain ⟨a, h1, hd⟩ := obind hd
    refine ⟨A, H0, G, ρ, a, en, sm, h1, fun G1 H1 x x1 r1 => ?_⟩
    unfold r1D at hd
    split at hd
    · split at hd
      · rename_i hb
        cases hd
        cases r1 with
        | cons r1 r2 =>
          cases r2
          cases r1
          exact ⟨_, rfl, (inR_ok hb).1, (inR_ok hb).2, k _ G1 H1 x1 (wk_range _ _)⟩
      · cases hd
    · cases hd
theorem di_range2 {tg a b : Expr} {p : Pos} {das : List Sl → Option (List D)} (hg : Gl X "range") (hm : X.mg "range" = none) (ha : PA X [a, b] (tA C das)) (hs : starEach [a, b] X.env = [(false, eval a X.env), (false, eval b X.env)] := by rfl) (hs2 : starEach [b] X.env = [(false, eval b X.env)] := by rfl) : PI X tg (.Call (.Name "range" p) [a, b] [] pos) (tI C (iRng r2D das)) :=
  pi_to (pi_range2 hg hm ha hs hs2) fun σ H R ⟨A, H0, G, ρ, z, en, sm, hd, k⟩ => by
    obtain ⟨a, h1, hd⟩ := obind hd
    refine ⟨A, H0, G, ρ, a, en, sm, h1, fun G1 H1 x x1 r1 => ?_⟩
    unfold r2D at hd
    split at hd
    · split at hd
      · rename_i hb
        rw [Bool.and_eq_true] at hb
        cases hd
        cases r1 with
        | cons r1 r2 =>
          cases r2 with
          | cons r2 r3 =>
            cases r3
            cases r1
            cases r2
            exact ⟨_, _, rfl, ⟨(inR_ok hb.1).1, (inR_ok hb.1).2, (inR_ok hb.2).1, (inR_ok hb.2).2⟩, k _ G1 H1 x1 (wk_range _ _)⟩
      · cases hd
    · cases hd
/-! reversed(range(n)) -/
def dnI : Nat → List D
  | 0 => []
  | n + 1 => .int n :: dnI n
theorem dnI_len : ∀ n : Nat, (dnI n).length = n
  | 0 => rfl
  | n + 1 => by unfold dnI; rw [List.length_cons, dnI_len n]
theorem dnI_get : ∀ (n i : Nat) (d : D), (dnI n)[i]? = some d → d = .int ((n : Int) - 1 - i)
  | 0, _, _, h => by simp [dnI] at h
  | n + 1, 0, d, h => by
    unfold dnI at h
    simp at h
    rw [← h]
    congr 1
    omega
  | n + 1, i + 1, d, h => by
    unfold dnI at h
    have := dnI_get n i d (by simpa using h)
    rw [this]
    congr 1
    omega
def iRevR1 (d : List Sl → Option D) : List Sl → Option (List D) := fun ρ => (d ρ).bind fun x => match x with
  | .int j => if inR j then some (dnI j.toNat) else none
  | _ => none
theorem di_revR1 {tg a : Expr} {p p2 pos2 : Pos} {d : List Sl → Option D} (hg : Gl X "reversed") (hm : X.mg "reversed" = none) (hg2 : Gl X "range") (hm2 : X.mg "range" = none) (ha : PE X a (tD C d)) (na : starEach [a] X.env = (false, eval a X.env) :: starEach [] X.env := by rfl)
    (hs : starEach [.Call (.Name "range" p2) [a] [] pos2] X.env = (false, eval (.Call (.Name "range" p2) [a] [] pos2) X.env) :: starEach [] X.env := by rfl) : PI X tg (.Call (.Name "reversed" p) [.Call (.Name "range" p2) [a] [] pos2] [] pos) (tI C (iRevR1 d)) :=
  pi_to (pi_revR hg hm (prg_1 hg2 hm2 ha na) hs) fun σ H R ⟨A, H0, G, ρ, z, en, sm, hd, k⟩ => by
    obtain ⟨a, h1, hd⟩ := obind hd
    refine ⟨A, H0, G, ρ, a, en, sm, h1, fun G1 H1 x x1 r1 => ?_⟩
    split at hd
    · split at hd
      · rename_i j hb
        cases hd
        cases r1
        obtain ⟨b1, b2⟩ := inR_ok hb
        refine ⟨j, rfl, by decide, by decide, b1, b2, k _ G1 H1 x1 fun i G2 H2 s1 s2 => ?_⟩
        rw [Int.sub_zero]
        refine ⟨fun z => by show j.toNat ≤ i; rw [z, dnI_len]; exact Nat.le_refl _, fun d hd => ?_⟩
        have hi : i < j.toNat := by
          have := (List.getElem?_eq_some_iff.mp hd).1
          rwa [dnI_len] at this
        refine ⟨hi, fun x H3 y => ?_⟩
        obtain ⟨e1, e2⟩ := y
        subst e1 e2
        rw [dnI_get _ i d hd]
        refine ⟨G2, .refl s2, ?_⟩
        have e : (0 : Int) + ((j.toNat : Nat) : Int) - 1 + (i : Int) * -1 = ((j.toNat : Nat) : Int) - 1 - i := by omega
        rw [e]
        exact .int _
      · cases hd
    · cases hd
/-! enumerate, zip -/
def enD : Int → List D → List D
  | _, [] => []
  | i, d :: ds => .tup [.int i, d] :: enD (i + 1) ds
theorem enD_len : ∀ (ds : List D) (i : Int), (enD i ds).length = ds.length
  | [], _ => rfl
  | d :: ds, i => by unfold enD; rw [List.length_cons, List.length_cons, enD_len ds]
theorem enD_get : ∀ (ds : List D) (j : Int) (i : Nat) (d : D), (enD j ds)[i]? = some d → ∃ x, ds[i]? = some x ∧ d = .tup [.int (j + i), x]
  | [], _, _, _, h => by simp [enD] at h
  | x :: ds, j, 0, d, h => by
    unfold enD at h
    simp at h
    exact ⟨x, rfl, by rw [← h]; simp⟩
  | x :: ds, j, i + 1, d, h => by
    unfold enD at h
    obtain ⟨y, h1, h2⟩ := enD_get ds (j + 1) i d (by simpa using h)
    refine ⟨y, by simpa using h1, ?_⟩
    rw [h2]
    have e : j + 1 + (i : Int) = j + ((i + 1 : Nat) : Int) := by omega
    rw [e]
def iEnumD (das : List Sl → Option (List D)) : List Sl → Option (List D) := fun ρ => (das ρ).bind fun l => match l with
  | [.tup ds] => some (enD 0 ds)
  | [.lst ds] => some (enD 0 ds)
  | _ => none
theorem pair_rp {G H : Hp} {T : Addr} {x y : V} {a b : D} (s : Same G H) (n : H T = none) (r1 : Rp C A G x a) (r2 : Rp C A G y b) : ∃ G3, Ext G H G3 (upd H T (.tup [x, y])) ∧ Rp C A G3 (.ref T) (.tup [a, b]) := by
  have sg : Same G (upd G T (.tup [x, y])) := same_new (none_of s n) _
  exact ⟨_, .new s n _, .tup upd_same (.cons (r1.mono sg) (.cons (r2.mono sg) .nil))⟩
theorem di_enum {e : Expr} {p tpos : Pos} {elts : List Expr} {kk : Nat} {das : List Sl → Option (List D)} (hg : Gl X "enumerate") (hm : X.mg "enumerate" = none) (ha : PA X [e] (tA C das)) (hs : starEach [e] X.env = [(false, eval e X.env)] := by rfl)
    (hs2 : starEach [e] X.env = (false, eval e X.env) :: starEach [] X.env := by rfl) : PI X (.Tuple elts kk tpos) (.Call (.Name "enumerate" p) [e] [] pos) (tI C (iEnumD das)) :=
  pi_to (pi_or (pi_enum hg hm ha hs) (pi_enumT hg hm ha hs)) fun σ H R ⟨A, H0, G, ρ, z, en, sm, hd, k⟩ => by
    obtain ⟨l, h1, hd⟩ := obind hd
    split at hd
    · cases hd
      refine .inr ⟨A, H0, G, ρ, _, en, sm, h1, fun G1 H1 x x1 r1 => ?_⟩
      cases r1 with
      | cons r1 r2 =>
        cases r2
        cases r1 with
        | tup e r =>
          refine ⟨_, _, rfl, .of (x1.s _ _ e), k _ G1 H1 x1 fun i G2 H2 s1 s2 => ?_⟩
          have eq : SqT X.K H2 _ _ := .of (s2 _ _ (s1 _ _ e))
          refine ⟨fun z => ⟨_, eq, by rw [z, enD_len, r.len]⟩, fun d hd => ?_⟩
          obtain ⟨y, g1, rfl⟩ := enD_get _ _ _ _ hd
          obtain ⟨v, h1, h2⟩ := r.get g1
          refine ⟨⟨_, v, eq, h1⟩, fun x H3 yl => ?_⟩
          obtain ⟨T, x', rfl, nT, rfl, f⟩ := yl
          have := f _ eq
          rw [h1] at this; cases this
          rw [Int.zero_add]
          exact pair_rp s2 nT (.int _) (h2.mono s1)
    · cases hd
      refine .inl ⟨A, H0, G, ρ, _, en, sm, h1, fun G1 H1 x x1 r1 => ?_⟩
      cases r1 with
      | cons r1 r2 =>
        cases r2
        cases r1 with
        | lst e r =>
          refine ⟨_, _, rfl, .of (x1.s _ _ e), k _ G1 H1 x1 fun i G2 H2 s1 s2 => ?_⟩
          have eq : SqL X.K H2 _ _ := .of (s2 _ _ (s1 _ _ e))
          refine ⟨fun z => ⟨_, eq, by rw [z, enD_len, r.len]; exact Nat.le_refl _⟩, fun d hd => ?_⟩
          obtain ⟨y, g1, rfl⟩ := enD_get _ _ _ _ hd
          obtain ⟨v, h1, h2⟩ := r.get g1
          refine ⟨⟨_, v, eq, h1⟩, fun x H3 yl => ?_⟩
          obtain ⟨T, x', rfl, nT, rfl, f⟩ := yl
          have := f _ eq
          rw [h1] at this; cases this
          rw [Int.zero_add]
          exact pair_rp s2 nT (.int _) (h2.mono s1)
    · cases hd
def zipD : List D → List D → List D
  | a :: as, b :: bs => .tup [a, b] :: zipD as bs
  | _, _ => []
theorem zipD_len : ∀ (as bs : List D), (zipD as bs).length = min as.length bs.length
  | [], _ => by simp [zipD]
  | _ :: _, [] => by simp [zipD]
  | a :: as, b :: bs => by unfold zipD; rw [List.length_cons, zipD_len as bs, List.length_cons, List.length_cons]; omega
theorem zipD_get : ∀ (as bs : List D) (i : Nat) (d : D), (zipD as bs)[i]? = some d → ∃ a b, as[i]? = some a ∧ bs[i]? = some b ∧ d = .tup [a, b]
  | [], _, _, _, h => by simp [zipD] at h
  | _ :: _, [], _, _, h => by simp [zipD] at h
  | a :: as, b :: bs, 0, d, h => by
    unfold zipD at h
    simp at h
    exact ⟨a, b, rfl, rfl, h.symm⟩
  | a :: as, b :: bs, i + 1, d, h => by
    unfold zipD at h
    obtain ⟨x, y, h1, h2, h3⟩ := zipD_get as bs i d (by simpa using h)
    exact ⟨x, y, by simpa using h1, by simpa using h2, h3⟩
def iZipD (das : List Sl → Option (List D)) : List Sl → Option (List D) := fun ρ => (das ρ).bind fun l => match l with
  | [.tup a, .tup b] => some (zipD a b)
  | [.lst a, .lst b] => some (zipD a b)
  | [.tup a, .lst b] => some (zipD a b)
  | _ => none
theorem di_zip {e e2 : Expr} {p tpos : Pos} {elts : List Expr} {kk : Nat} {das : List Sl → Option (List D)} (hg : Gl X "zip") (hm : X.mg "zip" = none) (ha : PA X [e, e2] (tA C das))
    (hs : starEach [e, e2] X.env = (false, eval e X.env) :: starEach [e2] X.env := by rfl) (hpl : (backTo pos (starEach [e2] X.env)).any (·.1) = false := by rfl) :
    PI X (.Tuple elts kk tpos) (.Call (.Name "zip" p) [e, e2] [] pos) (tI C (iZipD das)) :=
  pi_to (pi_or (RZ.pi_zipA hg hm ha hs hpl) (KW.pi_zipM hg hm ha hs hpl)) fun σ H R ⟨A, H0, G, ρ, z, en, sm, hd, k⟩ => by
    obtain ⟨l, h1, hd⟩ := obind hd
    split at hd
    · cases hd
      refine .inl ⟨A, H0, G, ρ, _, en, sm, h1, fun G1 H1 x x1 r1 => ?_⟩
      cases r1 with
      | cons r1 r2 =>
        cases r2 with
        | cons r2 r3 =>
          cases r3
          cases r1 with
          | tup e r =>
            cases r2 with
            | tup e' r' =>
              refine ⟨_, _, _, _, rfl, .inr ⟨.of (x1.s _ _ e), .of (x1.s _ _ e'), k _ G1 H1 x1 fun i G2 H2 s1 s2 => ?_⟩⟩
              have eq : SqT X.K H2 _ _ := .of (s2 _ _ (s1 _ _ e))
              have eq' : SqT X.K H2 _ _ := .of (s2 _ _ (s1 _ _ e'))
              have l1 := r.len
              have l2 := r'.len
              refine ⟨fun z => ⟨_, _, eq, eq', by rw [zipD_len] at z; omega⟩, fun d hd => ?_⟩
              obtain ⟨ya, yb, g1, g2, rfl⟩ := zipD_get _ _ _ _ hd
              obtain ⟨v, p1, p2⟩ := r.get g1
              obtain ⟨v', p1', p2'⟩ := r'.get g2
              refine ⟨⟨_, _, v, v', eq, eq', p1, p1'⟩, fun x H3 yl => ?_⟩
              obtain ⟨T, x', y', rfl, nT, rfl, f, f'⟩ := yl
              have t1 := f _ eq
              have t2 := f' _ eq'
              rw [p1] at t1; cases t1
              rw [p1'] at t2; cases t2
              exact pair_rp s2 nT (p2.mono s1) (p2'.mono s1)
    · cases hd
      refine .inl ⟨A, H0, G, ρ, _, en, sm, h1, fun G1 H1 x x1 r1 => ?_⟩
      cases r1 with
      | cons r1 r2 =>
        cases r2 with
        | cons r2 r3 =>
          cases r3
          cases r1 with
          | lst e r =>
            cases r2 with
            | lst e' r' =>
              refine ⟨_, _, _, _, rfl, .inl ⟨.of (x1.s _ _ e), .of (x1.s _ _ e'), k _ G1 H1 x1 fun i G2 H2 s1 s2 => ?_⟩⟩
              have eq : SqL X.K H2 _ _ := .of (s2 _ _ (s1 _ _ e))
              have eq' : SqL X.K H2 _ _ := .of (s2 _ _ (s1 _ _ e'))
              have l1 := r.len
              have l2 := r'.len
              refine ⟨fun z => ⟨_, _, eq, eq', by rw [zipD_len] at z; omega⟩, fun d hd => ?_⟩
              obtain ⟨ya, yb, g1, g2, rfl⟩ := zipD_get _ _ _ _ hd
              obtain ⟨v, p1, p2⟩ := r.get g1
              obtain ⟨v', p1', p2'⟩ := r'.get g2
              refine ⟨⟨_, _, v, v', eq, eq', p1, p1'⟩, fun x H3 yl => ?_⟩
              obtain ⟨T, x', y', rfl, nT, rfl, f, f'⟩ := yl
              have t1 := f _ eq
              have t2 := f' _ eq'
              rw [p1] at t1; cases t1
              rw [p1'] at t2; cases t2
              exact pair_rp s2 nT (p2.mono s1) (p2'.mono s1)
    · cases hd
      refine .inr ⟨A, H0, G, ρ, _, en, sm, h1, fun G1 H1 x x1 r1 => ?_⟩
      cases r1 with
      | cons r1 r2 =>
        cases r2 with
        | cons r2 r3 =>
          cases r3
          cases r1 with
          | tup e r =>
            cases r2 with
            | lst e' r' =>
              refine ⟨_, _, _, _, rfl, .of (x1.s _ _ e), .of (x1.s _ _ e'), k _ G1 H1 x1 fun i G2 H2 s1 s2 => ?_⟩
              have eq : SqT X.K H2 _ _ := .of (s2 _ _ (s1 _ _ e))
              have eq' : SqL X.K H2 _ _ := .of (s2 _ _ (s1 _ _ e'))
              have l1 := r.len
              have l2 := r'.len
              refine ⟨fun z => ⟨_, _, eq, eq', by rw [zipD_len] at z; omega⟩, fun d hd => ?_⟩
              obtain ⟨ya, yb, g1, g2, rfl⟩ := zipD_get _ _ _ _ hd
              obtain ⟨v, p1, p2⟩ := r.get g1
              obtain ⟨v', p1', p2'⟩ := r'.get g2
              refine ⟨⟨_, _, v, v', eq, eq', p1, p1'⟩, fun x H3 yl => ?_⟩
              obtain ⟨T, x', y', rfl, nT, rfl, f, f'⟩ := yl
              have t1 := f _ eq
              have t2 := f' _ eq'
              rw [p1] at t1; cases t1
              rw [p1'] at t2; cases t2
              exact pair_rp s2 nT (p2.mono s1) (p2'.mono s1)
    · cases hd
/-! ### targets -/
def gN (i : Nat) : D → List Sl → Option (List Sl) := fun d ρ => some (ρ.set i (.val d))
theorem wipe_get (σ : L2.St) : ∀ (vs : List Nat) (j : Nat), (wipe σ vs)[j]? = if j ∈ vs then (if j < σ.length then some none else none) else σ[j]?
  | [], j => by simp [wipe]
  | v :: vs, j => by
    have ih := wipe_get σ vs j
    have hl : (wipe σ vs).length = σ.length := wipe_length σ vs
    unfold wipe
    by_cases e : j = v
    · subst e
      rw [if_pos List.mem_cons_self]
      by_cases hj : j < σ.length
      · rw [List.getElem?_set_self (by rw [hl]; exact hj), if_pos hj]
      · rw [if_neg hj, List.getElem?_eq_none (by rw [List.length_set, hl]; omega)]
    · rw [List.getElem?_set_ne (Ne.symm e), ih]
      have : (j ∈ v :: vs) ↔ j ∈ vs := by simp [e]
      simp [this]
theorem wipe_set {σ : L2.St} {i : Nat} {x : Option V} {vs : List Nat} (h : i ∈ vs) : wipe (σ.set i x) vs = wipe σ vs := by
  apply List.ext_getElem?
  intro j
  rw [wipe_get, wipe_get, List.length_set]
  by_cases e : j ∈ vs
  · rw [if_pos e, if_pos e]
  · rw [if_neg e, if_neg e, List.getElem?_set_ne]
    rintro rfl
    exact e h
theorem wipe_idem (σ : L2.St) (vs : List Nat) : wipe (wipe σ vs) vs = wipe σ vs := by
  apply List.ext_getElem?
  intro j
  rw [wipe_get, wipe_get, wipe_length]
  by_cases e : j ∈ vs
  · rw [if_pos e, if_pos e]
  · rw [if_neg e, if_neg e]
theorem dg_name {i : Nat} {x : Str} (hN : X.N.Nodup) (hi : X.N[i]? = some x := by rfl) (hx : Loc X.env.scope x := by first | exact .inl rfl | exact .inr rfl) (hf : X.fn x = true ∨ X.env.scope.names.lookup x = some .local := by first | exact .inl rfl | exact .inr rfl | assumption) : PG X (.Name x pos) (tG C [i] (gN i)) :=
  pg_to (pg_name hN hi hx hf) fun v σ H Q ⟨A, H0, G, ρ, d, ρ', en, sm, r, hd, k⟩ => by
    cases hd
    exact k _ G H (.refl sm) (en.put i r) fun vs h => wipe_set (h i (List.mem_singleton.mpr rfl))
def gnil : List D → List Sl → Option (List Sl)
  | [], ρ => some ρ
  | _, _ => none
def gcons (g : D → List Sl → Option (List Sl)) (gs : List D → List Sl → Option (List Sl)) : List D → List Sl → Option (List Sl)
  | d :: ds, ρ => (g d ρ).bind (gs ds)
  | [], _ => none
theorem dg_nil : PGs X [] (tGs C [] gnil) := pgs_to pgs_nil fun vs σ H Q ⟨A, H0, G, ρ, ds, ρ', en, sm, r, hd, k⟩ => by
  cases r with
  | nil => cases hd; exact ⟨rfl, k σ G H (.refl sm) en fun _ _ => rfl⟩
  | cons _ _ => cases hd
theorem dg_cons {e : Expr} {es : List Expr} {is js : List Nat} {g : D → List Sl → Option (List Sl)} {gs : List D → List Sl → Option (List Sl)} (h1 : PG X e (tG C is g)) (h2 : PGs X es (tGs C js gs))
    (hs : (assignEach (e :: es) X.env).map (·.2) = assign e X.env :: (assignEach es X.env).map (·.2) := by rfl) : PGs X (e :: es) (tGs C (is ++ js) (gcons g gs)) :=
  pgs_to (pgs_cons h1 h2 hs) fun vs σ H Q ⟨A, H0, G, ρ, ds, ρ', en, sm, r, hd, k⟩ => by
    cases r with
    | nil => cases hd
    | cons r1 r2 =>
      obtain ⟨ρ1, h1, hd⟩ := obind hd
      refine ⟨_, _, rfl, A, H0, G, ρ, _, ρ1, en, sm, r1, h1, fun σ1 G1 H1 x1 en1 w1 => ⟨A, H0, G1, ρ1, _, ρ', en1, x1.s, r2.mono x1.g, hd, fun σ2 G2 H2 x2 en2 w2 => k σ2 G2 H2 (x1.trans x2) en2 fun vs h => ?_⟩⟩
      rw [w2 vs fun i hi => h i (List.mem_append_right _ hi), w1 vs fun i hi => h i (List.mem_append_left _ hi)]
def gTu (n : Nat) (gs : List D → List Sl → Option (List Sl)) : D → List Sl → Option (List Sl) := fun d ρ => match d with
  | .tup ds => if ds.length == n then gs ds ρ else none
  | _ => none
theorem dg_tup {es : List Expr} {k : Nat} {is : List Nat} {gs : List D → List Sl → Option (List Sl)} {n : Nat} (hc : X.calm = true) (h : PGs X es (tGs C is gs))
    (hn : (assignEach es X.env).length = n := by rfl) (hst : (assignEach es X.env).findIdx? (·.1) = none := by rfl) : PG X (.Tuple es k pos) (tG C is (gTu n gs)) :=
  pg_to (pg_tup hc h hn hst) fun v σ H Q ⟨A, H0, G, ρ, d, ρ', en, sm, r, hd, k⟩ => by
    unfold gTu at hd
    split at hd
    · split at hd
      · rename_i hl
        cases r with
        | tup e ra => exact ⟨_, _, rfl, .of (sm _ _ e), by rw [ra.len]; exact beq_iff_eq.mp hl, A, H0, G, ρ, _, ρ', en, sm, ra, hd, k⟩
      · cases hd
    · cases hd
/-! ### comprehensions -/
def lcD (g : D → List Sl → Option (List Sl)) (tt : List Sl → Option Bool) (te : List Sl → Option D) (ρ : List Sl) : List D → Option (List D)
  | [] => some []
  | d :: ds => (g d ρ).bind fun ρ1 => (tt ρ1).bind fun b => if b then (te ρ1).bind fun y => (lcD g tt te ρ ds).bind fun r => some (y :: r) else lcD g tt te ρ ds
def dLc (di : List Sl → Option (List D)) (g : D → List Sl → Option (List Sl)) (tt : List Sl → Option Bool) (te : List Sl → Option D) (vs : List Nat) : List Sl → Option D := fun ρ =>
  (di ρ).bind fun ds => if decide (ds.length ≤ szB) then (lcD g tt te (wipeD ρ vs) ds).bind fun r => some (.lst r) else none
def bYes : List Sl → Option Bool := fun _ => some true
theorem dts_nil : PTs X [] (tB C bYes) := ⟨fun pins s σ H Q I ⟨A, H0, G, ρ, b, en, sm, hd, k⟩ => pts_nil.run pins s σ H Q I (by cases hd; exact k G H true (.refl sm) rfl)⟩
theorem dts_one {c : Expr} {t : List Sl → Option Bool} (h : PT X c (tB C t)) : PTs X [c] (tB C t) := pts_one h
theorem lc_ok {is vs : List Nat} {di : List Sl → Option (List D)} {g : D → List Sl → Option (List Sl)} {tt : List Sl → Option Bool} {te : List Sl → Option D} (hv : ∀ i ∈ is, i ∈ vs) :
    ∀ σ H Q, tD C (dLc di g tt te vs) σ H Q → tLc (tI C di) (tG C is g) (tB C tt) (tD C te) vs σ H Q := fun σ H Q ⟨A, H0, G, ρ, d, en, sm, hd, k⟩ => by
  obtain ⟨ds, h1, hd⟩ := obind hd
  split at hd
  · rename_i hz
    obtain ⟨r, h2, hd⟩ := obind hd
    cases hd
    refine ⟨A, H0, G, ρ, ds, en, sm, h1, fun J G1 H1 x1 wk Dl nD => ?_⟩
    have ng : G1 Dl = none := none_of x1.s nD
    refine ⟨fun i m H2 => m = ds.length - i ∧ i ≤ ds.length ∧ ∃ G2 ys rs rest, Ext G1 H1 G2 H2 ∧ G2 Dl = none ∧ H2 Dl = some (.lst ys) ∧ RpAll C A G2 ys rs ∧ rs.length ≤ i ∧ lcD g tt te (wipeD ρ vs) (ds.drop i) = some rest ∧ rs ++ rest = r,
      ⟨ds.length, by simp, Nat.zero_le _, G1, [], [], r, .lay x1.s nD _, ng, upd_same, .nil, Nat.le_refl _, h2, rfl⟩, ?_⟩
    rintro i m H2 ⟨rfl, hi, G2, ys, rs, rest, x2, n2, e2, r2, hrs, hl, happ⟩
    obtain ⟨wstop, wgo⟩ := wk i G2 H2 x2.g x2.s
    by_cases lt : i < ds.length
    · have gd : ds[i]? = some ds[i] := List.getElem?_eq_getElem lt
      obtain ⟨go, yl⟩ := wgo _ gd
      rw [List.drop_eq_getElem_cons lt] at hl
      unfold lcD at hl
      obtain ⟨ρ1, g1, hl⟩ := obind hl
      obtain ⟨b, t1, hl⟩ := obind hl
      refine .inr ⟨go, fun H' => ∃ G2 ys rs rest, Ext G1 H1 G2 H' ∧ G2 Dl = none ∧ H' Dl = some (.lst ys) ∧ RpAll C A G2 ys rs ∧ rs.length ≤ i + 1 ∧ lcD g tt te (wipeD ρ vs) (ds.drop (i + 1)) = some rest ∧ rs ++ rest = r,
        fun H' hN => ⟨ds.length - (i + 1), by omega, rfl, lt, hN⟩, fun x H3 hy => ?_⟩
      obtain ⟨G3, x3, r3⟩ := yl x H3 hy
      have en3 : En C A H0 G3 H3 (wipe σ vs) (wipeD ρ vs) := (((en.ext x1).ext x2).ext x3).wipe vs
      refine ⟨A, H0, G3, _, _, ρ1, en3, x3.s, r3, g1, fun σ4 G4 H4 x4 en4 w4 => ⟨by rw [w4 vs hv, wipe_idem], A, H0, G4, ρ1, b, en4, x4.s, t1, fun G5 H5 v x5 hv5 => ?_⟩⟩
      obtain rfl : v = b := hv5
      have n5 : G5 Dl = none := x5.f _ _ (x4.h _ _ (x3.h _ _ e2)) (x4.f _ _ (x3.h _ _ e2) (x3.f _ _ e2 n2))
      have X5 : Ext G1 H1 G5 H5 := ((x2.trans x3).trans x4).trans x5
      have e5 : H5 Dl = some (.lst ys) := x5.h _ _ (x4.h _ _ (x3.h _ _ e2))
      have r5 : RpAll C A G5 ys rs := (r2.mono x3.g).mono (x4.g.trans x5.g)
      cases v with
      | true =>
        obtain ⟨y, t2, hl⟩ := obind (show ((te ρ1).bind fun y => (lcD g tt te (wipeD ρ vs) (ds.drop (i + 1))).bind fun r => some (y :: r)) = some rest by simpa using hl)
        obtain ⟨rest', t3, hl⟩ := obind hl
        cases hl
        rw [if_pos rfl]
        refine ⟨A, H0, G5, ρ1, y, en4.ext x5, x5.s, t2, fun G6 H6 yv x6 r6 => ?_⟩
        have e6 : H6 Dl = some (.lst ys) := x6.h _ _ e5
        have n6 : G6 Dl = none := x6.f _ _ e5 n5
        have X6 := X5.trans x6
        have hlen : ys.length < sizeLine := by
          rw [r5.len]
          have hz' : ds.length ≤ szB := of_decide_eq_true hz
          exact sz_lt (decide_eq_true (show rs.length ≤ szB by omega))
        refine ⟨ys, e6, hlen, G6, ys ++ [yv], rs ++ [y], rest', ⟨X6.g, fun b o q => ?_, fun b o q => ?_, X6.f⟩, n6, upd_same, (r5.mono x6.g).append (.cons r6 .nil), ?_, t3, ?_⟩
        · rw [upd_ne (fun z => by rw [z, n6] at q; cases q)]; exact X6.s _ _ q
        · rw [upd_ne (ne_of_none q nD)]; exact X6.h _ _ q
        · rw [List.length_append, List.length_singleton]; omega
        · rw [List.append_assoc]; exact happ
      | false =>
        rw [if_neg Bool.false_ne_true]
        exact ⟨G5, ys, rs, rest, X5, n5, e5, r5, by omega, by simpa using hl, happ⟩
    · have ei : i = ds.length := by omega
      subst ei
      rw [List.drop_length] at hl
      cases hl
      rw [List.append_nil] at happ
      subst happ
      refine .inl ⟨wstop rfl, k (upd G2 Dl (.lst ys)) H2 _ ⟨fun b o q => ?_, fun b o q => ?_, x1.h.trans x2.h, fun b o q q' => ?_⟩ (.lst upd_same (r2.mono (same_new n2 _)))⟩
      · rw [upd_ne (fun z => by rw [z] at q; have := x2.g _ _ (x1.g _ _ q); rw [n2] at this; cases this)]; exact x2.g _ _ (x1.g _ _ q)
      · by_cases z : b = Dl
        · subst z; rw [upd_same] at q; cases q; exact e2
        · rw [upd_ne z] at q; exact x2.s _ _ q
      · rw [upd_ne (ne_of_none (x1.h _ _ q) nD)]
        exact x2.f _ _ (x1.h _ _ q) (x1.f _ _ q q')
  · cases hd
theorem dn_lc {elt tg iter : Expr} {ifs : List Expr} {scope : Scope} {own : List (Str × Nat)} {is : List Nat} {di : List Sl → Option (List D)} {g : D → List Sl → Option (List Sl)} {tt : List Sl → Option Bool} {te : List Sl → Option D} (hc : X.calm = true) (hN : X.N.Nodup) (hi : PI X tg iter (tI C di)) (ok : BlkOk X.N X.env.scope scope own)
    (hg : ∀ (s : Shared) (H : Hp) (A : Addr) (cl : List (Str × Addr)) (fp : List Addr), PG (X.blk s H scope (compEnvC scope cl A X.env) fp) tg (tG C is g)) (ht : ∀ (s : Shared) (H : Hp) (A : Addr) (cl : List (Str × Addr)) (fp : List Addr), PTs (X.blk s H scope (compEnvC scope cl A X.env) fp) ifs (tB C tt))
    (he : ∀ (s : Shared) (H : Hp) (A : Addr) (cl : List (Str × Addr)) (fp : List Addr), PE (X.blk s H scope (compEnvC scope cl A X.env) fp) elt (tD C te)) (hv : ∀ i ∈ is, i ∈ own.map (·.2) := by decide) (hs : ∀ x, foldedSetIterable iter X.env x = pure x := by intro _; rfl) :
    PE X (.ListComp elt [⟨tg, iter, ifs, 0⟩] scope pos) (tD C (dLc di g tt te (own.map (·.2)))) :=
  pe_to (pe_lc hc hN hi ok hg ht he hs) (lc_ok hv)
end
end DN

set_option maxHeartbeats 1000000
/-! statements and defs by what they compute -/
namespace DN
open PySem PySem.Spec PyProof.Rows L2 KG
section
variable {X : Cx} {C : Addr} {A : List Addr} {pos : Pos}
def sSet (i : Nat) (de : List Sl → Option D) : List Sl → Option Out := fun ρ => (de ρ).bind fun d => some (.nx (ρ.set i (.val d)))
theorem ds_set {i : Nat} {x : Str} {e : Expr} {de : List Sl → Option D} {pos' : Pos} (hN : X.N.Nodup) (he : PE X e (tD C de)) (hi : X.N[i]? = some x := by rfl) (hx : Loc X.env.scope x := by first | exact .inl rfl | exact .inr rfl) (hs : swapsWith e (some (.Name x pos')) pos.line X.env = pure false := by rfl) (hf : X.fn x = true ∨ X.env.scope.names.lookup x = some .local := by first | exact .inl rfl | exact .inr rfl | assumption) :
    PS X (.Assign [.Name x pos'] e pos) (tS C (sSet i de)) :=
  ps_to (ps_set hN hi hx he hs hf) fun E σ H ⟨A, G0, H0, G, ρ, o, x0, en, hd, fin⟩ => by
    obtain ⟨d, h1, hd⟩ := obind hd
    cases hd
    exact ⟨A, H0, G, ρ, d, en, x0.s, h1, fun G1 H1 v x1 r1 => fin G1 H1 _ x1.g (x0.trans x1) ((en.ext x1).put i r1)⟩
def sAsg (de : List Sl → Option D) (g : D → List Sl → Option (List Sl)) : List Sl → Option Out := fun ρ => (de ρ).bind fun d => (g d ρ).bind fun ρ' => some (.nx ρ')
theorem ds_asg {tg e : Expr} {de : List Sl → Option D} {is : List Nat} {g : D → List Sl → Option (List Sl)} (he : PE X e (tD C de)) (hg : PG X tg (tG C is g)) (hs : swapsWithSole [tg] e pos.line X.env = pure false := by rfl) (hw : swappedStores [tg] e X.env = pure none := by rfl)
    (h1 : (assignEach [tg] X.env).map (·.2) = [assign tg X.env] := by rfl) : PS X (.Assign [tg] e pos) (tS C (sAsg de g)) :=
  ps_to (ps_asg he hg hs hw h1) fun E σ H ⟨A, G0, H0, G, ρ, o, x0, en, hd, fin⟩ => by
    obtain ⟨d, h1, hd⟩ := obind hd
    obtain ⟨ρ', h2, hd⟩ := obind hd
    cases hd
    exact ⟨A, H0, G, ρ, d, en, x0.s, h1, fun G1 H1 v x1 r1 => ⟨A, H0, G1, ρ, d, ρ', en.ext x1, x1.s, r1, h2, fun σ2 G2 H2 x2 en2 _ => fin G2 H2 σ2 (x1.g.trans x2.g) ((x0.trans x1).trans x2) en2⟩⟩
def sAsg2 (de : List Sl → Option D) (g h : D → List Sl → Option (List Sl)) : List Sl → Option Out := fun ρ => (de ρ).bind fun d => (g d ρ).bind fun ρ1 => (h d ρ1).bind fun ρ' => some (.nx ρ')
theorem ds_asg2 {t1 t2 e : Expr} {de : List Sl → Option D} {is js : List Nat} {g h : D → List Sl → Option (List Sl)} (he : PE X e (tD C de)) (h1 : PG X t1 (tG C is g)) (h2 : PG X t2 (tG C js h)) (ha : (assignEach [t1, t2] X.env).map (·.2) = [assign t1 X.env, assign t2 X.env] := by rfl) (hw : swappedStores [t1, t2] e X.env = pure none := by rfl) : PS X (.Assign [t1, t2] e pos) (tS C (sAsg2 de g h)) :=
  ps_to (ps_asg2 he h1 h2 ha hw) fun E σ H ⟨A, G0, H0, G, ρ, o, x0, en, hd, fin⟩ => by
    obtain ⟨d, h1, hd⟩ := obind hd
    obtain ⟨ρ1, h2, hd⟩ := obind hd
    obtain ⟨ρ', h3, hd⟩ := obind hd
    cases hd
    exact ⟨A, H0, G, ρ, d, en, x0.s, h1, fun G1 H1 v x1 r1 => ⟨A, H0, G1, ρ, d, ρ1, en.ext x1, x1.s, r1, h2, fun σ2 G2 H2 x2 en2 _ => ⟨A, H0, G2, ρ1, d, ρ', en2, x2.s, r1.mono x2.g, h3, fun σ3 G3 H3 x3 en3 _ => fin G3 H3 σ3 ((x1.g.trans x2.g).trans x3.g) (((x0.trans x1).trans x2).trans x3) en3⟩⟩⟩
def sRet (de : List Sl → Option D) : List Sl → Option Out := fun ρ => (de ρ).bind fun d => some (.rt d)
theorem ds_ret {e : Expr} {de : List Sl → Option D} (he : PE X e (tD C de)) : PS X (.Return (some e) pos) (tS C (sRet de)) :=
  ps_to (ps_ret he) fun E σ H ⟨A, G0, H0, G, ρ, o, x0, en, hd, fin⟩ => by
    obtain ⟨d, h1, hd⟩ := obind hd
    cases hd
    exact ⟨A, H0, G, ρ, d, en, x0.s, h1, fun G1 H1 v x1 r1 => fin G1 H1 v (x0.trans x1) r1⟩
def sRetN : List Sl → Option Out := fun _ => some (.rt .non)
theorem ds_retN : PS X (.Return none pos) (tS C sRetN) :=
  ps_to ps_retN fun E σ H ⟨A, G0, H0, G, ρ, o, x0, en, hd, fin⟩ => by cases hd; exact fin G H .non x0 .non
def sNext : List Sl → Option Out := fun ρ => some (.nx ρ)
def sBrk : List Sl → Option Out := fun ρ => some (.bk ρ)
def sCnt : List Sl → Option Out := fun ρ => some (.ct ρ)
def sNone : List Sl → Option Out := fun _ => none
theorem ds_nil : PSs X [] (tS C sNext) := pss_to pss_nil fun E σ H ⟨A, G0, H0, G, ρ, o, x0, en, hd, fin⟩ => by cases hd; exact fin G H σ (fun _ _ h => h) x0 en
theorem ds_break : PS X (.Break pos) (tS C sBrk) := ps_to ps_break fun E σ H ⟨A, G0, H0, G, ρ, o, x0, en, hd, fin⟩ => by cases hd; exact fin G H σ (fun _ _ h => h) x0 en
theorem ds_continue : PS X (.Continue pos) (tS C sCnt) := ps_to ps_continue fun E σ H ⟨A, G0, H0, G, ρ, o, x0, en, hd, fin⟩ => by cases hd; exact fin G H σ (fun _ _ h => h) x0 en
theorem ds_pass : PS X (.Pass pos) (tS C sNext) := ps_to ps_pass fun E σ H ⟨A, G0, H0, G, ρ, o, x0, en, hd, fin⟩ => by cases hd; exact fin G H σ (fun _ _ h => h) x0 en
/-- code that is not come to -/
theorem dss_nev {ss : List Stmt} : PSs X ss (tS C sNone) := pss_to pss_nev fun E σ H ⟨A, G0, H0, G, ρ, o, x0, en, hd, fin⟩ => by cases hd
theorem ds_nev {s : Stmt} : PS X s (tS C sNone) := ps_to ps_nev fun E σ H ⟨A, G0, H0, G, ρ, o, x0, en, hd, fin⟩ => by cases hd
def dNev : List Sl → Option D := fun _ => none
theorem dn_nev {e : Expr} : PE X e (tD C dNev) := pe_to pe_nev fun E σ H ⟨A, H0, G, ρ, d, en, sm, hd, k⟩ => by cases hd
def sSeq (d e : List Sl → Option Out) : List Sl → Option Out := fun ρ => (d ρ).bind fun o => match o with
  | .nx ρ' => e ρ'
  | o => some o
theorem ds_cons {st : Stmt} {rest : List Stmt} {d e : List Sl → Option Out} (h1 : PS X st (tS C d)) (h2 : PSs X rest (tS C e)) : PSs X (st :: rest) (tS C (sSeq d e)) :=
  pss_to (pss_cons h1 h2) fun E σ H ⟨A, G0, H0, G, ρ, o, x0, en, hd, fin⟩ => by
    obtain ⟨o1, h1, hd⟩ := obind hd
    refine ⟨A, G0, H0, G, ρ, o1, x0, en, h1, ?_⟩
    cases o1 with
    | nx ρ1 => exact fun G1 H1 σ1 s1 x1 en1 => ⟨A, G0, H0, G1, ρ1, o, x1, en1, hd, fin.mono s1⟩
    | rt d => cases hd; exact fin
    | bk ρ1 => cases hd; exact fin
    | ct ρ1 => cases hd; exact fin
theorem ds_one {st : Stmt} {d : List Sl → Option Out} (h1 : PS X st (tS C d)) : PSs X [st] (tS C d) := pss_one h1
def sIf (c : List Sl → Option Bool) (d e : List Sl → Option Out) : List Sl → Option Out := fun ρ => (c ρ).bind fun b => if b then d ρ else e ρ
theorem ds_if {c : Expr} {a b : List Stmt} {dc : List Sl → Option Bool} {d e : List Sl → Option Out} (hc : PT X c (tB C dc)) (ha : PSs X a (tS C d)) (hb : PSs X b (tS C e)) : PS X (.If c a b pos) (tS C (sIf dc d e)) :=
  ps_to (ps_if hc ha hb) fun E σ H ⟨A, G0, H0, G, ρ, o, x0, en, hd, fin⟩ => by
    obtain ⟨b, h1, hd⟩ := obind hd
    refine ⟨A, H0, G, ρ, b, en, x0.s, h1, fun G1 H1 v x1 r1 => ?_⟩
    obtain rfl : v = b := r1
    cases v with
    | true => exact ⟨A, G0, H0, G1, ρ, o, x0.trans x1, en.ext x1, by simpa using hd, fin.mono x1.g⟩
    | false => exact ⟨A, G0, H0, G1, ρ, o, x0.trans x1, en.ext x1, by simpa using hd, fin.mono x1.g⟩
/-! ### loops -/
def forD (g : D → List Sl → Option (List Sl)) (body : List Sl → Option Out) : List D → List Sl → Option Out
  | [], ρ => some (.nx ρ)
  | d :: ds, ρ => (g d ρ).bind fun ρ1 => (body ρ1).bind fun o => match o with
    | .nx ρ2 => forD g body ds ρ2
    | .ct ρ2 => forD g body ds ρ2
    | .bk ρ2 => some (.nx ρ2)
    | .rt d => some (.rt d)
def sFor (di : List Sl → Option (List D)) (g : D → List Sl → Option (List Sl)) (body : List Sl → Option Out) : List Sl → Option Out := fun ρ => (di ρ).bind fun ds => forD g body ds ρ
theorem ds_for {tg iter : Expr} {body : List Stmt} {is : List Nat} {di : List Sl → Option (List D)} {g : D → List Sl → Option (List Sl)} {db : List Sl → Option Out} (hp : PassesOwn (model X.prog X.w) X.A X.env X.xe) (hc : X.calm = true) (hi : PI X tg iter (tI C di)) (hg : PG X tg (tG C is g)) (hb : PSs X body (tS C db))
    (hs : ∀ x, foldedSetIterable iter X.env x = pure x := by intro _; rfl) : PS X (.For tg iter body [] pos) (tS C (sFor di g db)) :=
  ps_to (ps_for hp hc hi hg hb hs) fun E σ H ⟨A, G0, H0, G, ρ, o, x0, en, hd, fin⟩ => by
    obtain ⟨ds, h1, hd⟩ := obind hd
    refine ⟨A, H0, G, ρ, ds, en, x0.s, h1, fun J G1 H1 x1 wk => ?_⟩
    refine ⟨fun i m σ2 H2 => m = ds.length - i ∧ i ≤ ds.length ∧ ∃ G2 ρ2, Same G1 G2 ∧ Ext G0 H0 G2 H2 ∧ En C A H0 G2 H2 σ2 ρ2 ∧ forD g db (ds.drop i) ρ2 = some o,
      ⟨ds.length, by simp, Nat.zero_le _, G1, ρ, fun _ _ h => h, x0.trans x1, en.ext x1, hd⟩, ?_⟩
    rintro i m σ2 H2 ⟨rfl, hi, G2, ρ2, s2, x2, en2, hf⟩
    obtain ⟨wstop, wgo⟩ := wk i G2 H2 s2 x2.s
    by_cases lt : i < ds.length
    · have gd : ds[i]? = some ds[i] := List.getElem?_eq_getElem lt
      obtain ⟨go, yl⟩ := wgo _ gd
      rw [List.drop_eq_getElem_cons lt] at hf
      unfold forD at hf
      obtain ⟨ρ3, g1, hf⟩ := obind hf
      obtain ⟨o3, b1, hf⟩ := obind hf
      refine .inr ⟨go, fun σ' H' => ∃ G2 ρ2, Same G1 G2 ∧ Ext G0 H0 G2 H' ∧ En C A H0 G2 H' σ' ρ2 ∧ forD g db (ds.drop (i + 1)) ρ2 = some o, fun σ' H' hN => ⟨ds.length - (i + 1), by omega, rfl, lt, hN⟩, fun x H3 hy => ?_⟩
      obtain ⟨G3, x3, r3⟩ := yl x H3 hy
      refine ⟨A, H0, G3, ρ2, _, ρ3, en2.ext x3, x3.s, r3, g1, fun σ4 G4 H4 x4 en4 _ => ⟨A, G0, H0, G4, ρ3, o3, (x2.trans x3).trans x4, en4, b1, ?_⟩⟩
      have s4 : Same G1 G4 := (s2.trans x3.g).trans x4.g
      cases o3 with
      | nx ρ5 => exact fun G5 H5 σ5 s5 x5 en5 => ⟨G5, ρ5, s4.trans s5, x5, en5, hf⟩
      | ct ρ5 => exact fun G5 H5 σ5 s5 x5 en5 => ⟨G5, ρ5, s4.trans s5, x5, en5, hf⟩
      | bk ρ5 => cases hf; exact fun G5 H5 σ5 s5 x5 en5 => fin G5 H5 σ5 ((x1.g.trans s4).trans s5) x5 en5
      | rt d => cases hf; exact fin
    · have ei : i = ds.length := by omega
      subst ei
      rw [List.drop_length] at hf
      cases hf
      exact .inl ⟨wstop rfl, fin G2 H2 σ2 (x1.g.trans s2) x2 en2⟩
def whileD (c : List Sl → Option Bool) (body : List Sl → Option Out) : Nat → List Sl → Option Out
  | 0, _ => none
  | n + 1, ρ => (c ρ).bind fun b => if b then (body ρ).bind fun o => match o with
      | .nx ρ2 => whileD c body n ρ2
      | .ct ρ2 => whileD c body n ρ2
      | .bk ρ2 => some (.nx ρ2)
      | .rt d => some (.rt d)
    else some (.nx ρ)
theorem ds_while {c : Expr} {body : List Stmt} {dc : List Sl → Option Bool} {db : List Sl → Option Out} (n : Nat) (hp : PassesOwn (model X.prog X.w) X.A X.env X.xe) (hc : PT X c (tB C dc)) (hb : PSs X body (tS C db)) : PS X (.While c body [] pos) (tS C (whileD dc db n)) :=
  ps_to (ps_while hp hc hb) fun E σ H ⟨A, G0, H0, G, ρ, o, x0, en, hd, fin⟩ => by
    refine ⟨fun m σ2 H2 => ∃ G2 ρ2, Same G G2 ∧ Ext G0 H0 G2 H2 ∧ En C A H0 G2 H2 σ2 ρ2 ∧ whileD dc db m ρ2 = some o, ⟨n, G, ρ, fun _ _ h => h, x0, en, hd⟩, ?_⟩
    rintro m σ2 H2 ⟨G2, ρ2, s2, x2, en2, hf⟩
    cases m with
    | zero => cases hf
    | succ m =>
      unfold whileD at hf
      obtain ⟨b, c1, hf⟩ := obind hf
      refine ⟨A, H0, G2, ρ2, b, en2, x2.s, c1, fun G3 H3 v x3 r3 => ?_⟩
      obtain rfl : v = b := r3
      cases v with
      | true =>
        obtain ⟨o3, b1, hf⟩ := obind (by simpa using hf)
        rw [if_pos rfl]
        refine ⟨fun σ' H' => ∃ G2 ρ2, Same G G2 ∧ Ext G0 H0 G2 H' ∧ En C A H0 G2 H' σ' ρ2 ∧ whileD dc db m ρ2 = some o, fun σ' H' hN => ⟨m, Nat.lt_succ_self _, hN⟩, A, G0, H0, G3, ρ2, o3, x2.trans x3, en2.ext x3, b1, ?_⟩
        have s4 : Same G G3 := s2.trans x3.g
        cases o3 with
        | nx ρ5 => exact fun G5 H5 σ5 s5 x5 en5 => ⟨G5, ρ5, s4.trans s5, x5, en5, hf⟩
        | ct ρ5 => exact fun G5 H5 σ5 s5 x5 en5 => ⟨G5, ρ5, s4.trans s5, x5, en5, hf⟩
        | bk ρ5 => cases hf; exact fun G5 H5 σ5 s5 x5 en5 => fin G5 H5 σ5 (s4.trans s5) x5 en5
        | rt d => cases hf; exact fin
      | false =>
        have : o = .nx ρ2 := by simpa using hf.symm
        subst this
        rw [if_neg Bool.false_ne_true]
        exact fin G3 H3 σ2 (s2.trans x3.g) (x2.trans x3) (en2.ext x3)
/-! name op= e, of ints -/
def sAug (i : Nat) (f : Int → Int → Int) (de : List Sl → Option D) : List Sl → Option Out := fun ρ => (dV i ρ).bind fun a => (de ρ).bind fun b => (fI20 f a b).bind fun d => some (.nx (ρ.set i (.val d)))
theorem ds_aug {i : Nat} {x : Str} {e : Expr} {de : List Sl → Option D} {op : Operator} {f : Int → Int → Int} {pos' : Pos} (hN : X.N.Nodup) (he : PE X e (tD C de)) (ho : PIp X op (ipI f)) (hi : X.N[i]? = some x := by rfl) (hx : Loc X.env.scope x := by first | exact .inl rfl | exact .inr rfl) (hf : X.fn x = true ∨ X.env.scope.names.lookup x = some .local := by first | exact .inl rfl | exact .inr rfl | assumption) :
    PS X (.AugAssign (.Name x pos') op e pos) (tS C (sAug i f de)) :=
  ps_to (ps_aug hN hi hx he ho hf) fun E σ H ⟨A, G0, H0, G, ρ, o, x0, en, hd, fin⟩ => by
    obtain ⟨a, h1, hd⟩ := obind hd
    obtain ⟨b, h2, hd⟩ := obind hd
    obtain ⟨d, h3, hd⟩ := obind hd
    cases hd
    unfold fI20 at h3
    split at h3
    · cases h3
      unfold dV at h1
      split at h1
      · rename_i d' hi
        cases h1
        obtain ⟨v, p1, p2⟩ := en.val i _ hi
        cases p2
        refine ⟨_, p1, A, H0, G, ρ, _, en, x0.s, h2, fun G1 H1 y x1 r1 => ?_⟩
        cases r1
        exact ⟨_, _, rfl, rfl, fin G1 H1 _ x1.g (x0.trans x1) ((en.ext x1).put i (.int _))⟩
      · cases h1
    · cases h3
/-! ### lists of one's own -/
def sNew (i : Nat) (das : List Sl → Option (List D)) : List Sl → Option Out := fun ρ => (das ρ).bind fun ds => if decide (ds.length ≤ szB) then some (.nx (ρ.set i (.own ds))) else none
theorem ds_new {i : Nat} {x : Str} {es : List Expr} {das : List Sl → Option (List D)} {pos' lpos : Pos} (hN : X.N.Nodup) (he : PA X es (tA C das)) (hi : X.N[i]? = some x := by rfl) (hx : Loc X.env.scope x := by first | exact .inl rfl | exact .inr rfl) (hs : swapsWith (.List es lpos) (some (.Name x pos')) pos.line X.env = pure false := by rfl) (hf : X.fn x = true ∨ X.env.scope.names.lookup x = some .local := by first | exact .inl rfl | exact .inr rfl | assumption) :
    PS X (.Assign [.Name x pos'] (.List es lpos) pos) (tS C (sNew i das)) :=
  ps_to (ps_set hN hi hx (pe_lst he) hs hf) fun E σ H ⟨A, G0, H0, G, ρ, o, x0, en, hd, fin⟩ => by
    obtain ⟨ds, h1, hd⟩ := obind hd
    obtain ⟨hz, rfl⟩ := oif hd
    refine ⟨A, H0, G, ρ, ds, en, x0.s, h1, fun G1 H1 vs x1 r1 => ⟨by rw [r1.len]; exact sz_ok hz, fun p np => ?_⟩⟩
    have X1 := x0.trans x1
    have n0 : H0 p = none := by
      cases q : H0 p with
      | none => rfl
      | some u => rw [X1.h _ _ q] at np; cases np
    exact fin G1 _ _ x1.g (X1.trans (.lay x1.s np _)) ((en.ext x1).putOwn i np n0 x1.s r1)
def ownD (i : Nat) : List Sl → Option (List D) := fun ρ => match ρ[i]? with
  | some (.own ds) => some ds
  | _ => none
theorem ownD_ok {i : Nat} {ρ : List Sl} {ds : List D} (h : ownD i ρ = some ds) : ρ[i]? = some (.own ds) := by
  unfold ownD at h
  split at h
  · rename_i q; cases h; exact q
  · cases h
def sApp (i : Nat) (de : List Sl → Option D) : List Sl → Option Out := fun ρ => (ownD i ρ).bind fun ds => (de ρ).bind fun d => if decide (ds.length ≤ szB) then some (.nx (ρ.set i (.own (ds ++ [d])))) else none
theorem grow_ext {G0 H0 G H : Hp} {a : Addr} {us : List V} (x : Ext G0 H0 G H) (n : G a = none) (n0 : H0 a = none) : Ext G0 H0 G (upd H a (.lst us)) :=
  ⟨x.g, fun b o q => by rw [upd_ne (fun z => by rw [z, n] at q; cases q)]; exact x.s _ _ q, fun b o q => by rw [upd_ne (ne_of_none q n0)]; exact x.h _ _ q, x.f⟩
theorem ds_app {i : Nat} {x : Str} {e : Expr} {de : List Sl → Option D} {apos epos p : Pos} (he : PE X e (tD C de)) (hi : X.N[i]? = some x := by rfl) (hv : Vis X.env.scope x := by first | exact .inl rfl | exact .inr (.inl rfl) | exact .inr (.inr rfl)) (hd : (x == ("__debug__" : Str)) = false := by decide) (hcd : (x == ("__classdict__" : Str)) = false := by decide)
    (hps : ∀ {t : TE}, PE X (.Call (.Attribute (.Name x p) "append" apos) [e] [] epos) t → PS X (.Expr (.Call (.Attribute (.Name x p) "append" apos) [e] [] epos) pos) (tDrop t))
    (hpe : ∀ {to : TE} {t : TA}, PE X (.Name x p) to → PA X [e] t → PE X (.Call (.Attribute (.Name x p) "append" apos) [e] [] epos) (tBM X.K "list" rAppend to t))
    (hst : starEach [e] X.env = (false, eval e X.env) :: starEach [] X.env := by rfl) :
    PS X (.Expr (.Call (.Attribute (.Name x p) "append" apos) [e] [] epos) pos) (tS C (sApp i de)) :=
  ps_to (hps (hpe (pe_var hi hv hd hcd) (pa_cons he pa_nil hst))) fun E σ H ⟨A, G0, H0, G, ρ, o, x0, en, hd, fin⟩ => by
    obtain ⟨ds, h1, hd⟩ := obind hd
    obtain ⟨d, h2, hd⟩ := obind hd
    obtain ⟨hz, rfl⟩ := oif hd
    have ho := ownD_ok h1
    obtain ⟨a, vs, p1, p2, p3, p4, p5, p6⟩ := en.own i ds ho
    refine ⟨_, p1, .inl ⟨rfl, vs, .of p2⟩, A, H0, G, ρ, d, en, x0.s, h2, fun G1 H1 v x1 r1 => ?_⟩
    have q2 := x1.h _ _ p2
    have q3 := x1.f _ _ p2 p3
    refine ⟨a, vs, v, rfl, rfl, q2, by rw [p5.len]; exact sz_lt hz, ?_⟩
    exact fin G1 _ σ x1.g (grow_ext (x0.trans x1) q3 p4) ((en.ext x1).grow ho p1 ((p5.mono x1.g).append (.cons r1 .nil)))
/-- x = xs.pop() -/
def sPop (i j : Nat) : List Sl → Option Out := fun ρ => (ownD j ρ).bind fun ds => (ds[ds.length - 1]?).bind fun d => some (.nx ((ρ.set j (.own ds.dropLast)).set i (.val d)))
theorem ds_pop {i j : Nat} {x y : Str} {e : Expr} {pos' p : Pos} (hN : X.N.Nodup) (hpe : ∀ {to : TE}, PE X (.Name y p) to → PE X e (tBM0 X.K "list" rPop to)) (hi : X.N[i]? = some x := by rfl) (hj : X.N[j]? = some y := by rfl) (hv : Vis X.env.scope y := by first | exact .inl rfl | exact .inr (.inl rfl) | exact .inr (.inr rfl)) (hd : (y == ("__debug__" : Str)) = false := by decide) (hcd : (y == ("__classdict__" : Str)) = false := by decide)
    (hx : Loc X.env.scope x := by first | exact .inl rfl | exact .inr rfl) (hs : swapsWith e (some (.Name x pos')) pos.line X.env = pure false := by rfl) (hf : X.fn x = true ∨ X.env.scope.names.lookup x = some .local := by first | exact .inl rfl | exact .inr rfl | assumption) :
    PS X (.Assign [.Name x pos'] e pos) (tS C (sPop i j)) :=
  ps_to (ps_set hN hi hx (hpe (pe_var hj hv hd hcd)) hs hf) fun E σ H ⟨A, G0, H0, G, ρ, o, x0, en, hd, fin⟩ => by
    obtain ⟨ds, h1, hd⟩ := obind hd
    obtain ⟨d, h2, hd⟩ := obind hd
    cases hd
    have ho := ownD_ok h1
    obtain ⟨a, vs, p1, p2, p3, p4, p5, p6⟩ := en.own j ds ho
    obtain ⟨v, q1, q2⟩ := p5.get h2
    rw [← p5.len] at q1
    refine ⟨_, p1, .inl ⟨rfl, vs, .of p2⟩, a, vs, v, rfl, rfl, p2, q1, ?_⟩
    exact fin G _ _ (fun _ _ h => h) (grow_ext x0 p3 p4) ((en.grow ho p1 p5.dropLast).put i q2)
/-- from here on the list at slot i stands for good -/
def sFrz (i : Nat) (den : List Sl → Option Out) : List Sl → Option Out := fun ρ => (ownD i ρ).bind fun ds => den (ρ.set i (.val (.lst ds)))
theorem dss_frz {i : Nat} {sts : List Stmt} {den : List Sl → Option Out} (h : PSs X sts (tS C den)) : PSs X sts (tS C (sFrz i den)) :=
  pss_to h fun E σ H ⟨A, G0, H0, G, ρ, o, x0, en, hd, fin⟩ => by
    obtain ⟨ds, h1, hd⟩ := obind hd
    have ho := ownD_ok h1
    obtain ⟨a, vs, p1, p2, p3, p4, p5, p6⟩ := en.own i ds ho
    obtain ⟨en2, s2, s3⟩ := en.freeze x0.s ho p1 p2 p5
    exact ⟨A, G0, H0, _, _, o, ⟨x0.g.trans s2, s3, x0.h, fun b u q q' => by rw [upd_ne (ne_of_none q p4)]; exact x0.f _ _ q q'⟩, en2, hd, fin.mono s2⟩
/-- reading one's own list -/
def dIxO (i : Nat) (db : List Sl → Option D) : List Sl → Option D := fun ρ => (ownD i ρ).bind fun ds => (db ρ).bind fun b => fIx (.lst ds) b
theorem dn_ixO {i : Nat} {x : Str} {b : Expr} {db : List Sl → Option D} {p : Pos} (hb : PE X b (tD C db)) (hs : PlainIx b) (hi : X.N[i]? = some x := by rfl) (hv : Vis X.env.scope x := by first | exact .inl rfl | exact .inr (.inl rfl) | exact .inr (.inr rfl)) (hd : (x == ("__debug__" : Str)) = false := by decide) (hcd : (x == ("__classdict__" : Str)) = false := by decide) : PE X (.Subscript (.Name x p) b pos) (tD C (dIxO i db)) :=
  pe_to (pe_ix ix_list (pe_var hi hv hd hcd) hb hs) fun σ H Q ⟨A, H0, G, ρ, d, en, sm, hd, k⟩ => by
    obtain ⟨ds, h1, hd⟩ := obind hd
    obtain ⟨j, h2, hd⟩ := obind hd
    have ho := ownD_ok h1
    obtain ⟨a, vs, p1, p2, p3, p4, p5, p6⟩ := en.own i ds ho
    refine ⟨_, p1, A, H0, G, ρ, j, en, sm, h2, fun G1 H1 y x1 r1 => ?_⟩
    cases j with
    | int n =>
      cases r1
      obtain ⟨v, g1, g2⟩ := at_rp p5 (show atI ds n = some d from hd)
      exact ⟨a, vs, _, v, rfl, rfl, .of (x1.h _ _ p2), g1, k G1 H1 v x1 (g2.mono x1.g)⟩
    | _ => cases hd
def dLenO (i : Nat) : List Sl → Option D := fun ρ => (ownD i ρ).bind fun ds => some (.int ds.length)
theorem dn_lenO {i : Nat} {x : Str} {p p2 : Pos} (hg : Gl X "len") (hm : X.mg "len" = none) (hi : X.N[i]? = some x := by rfl) (hv : Vis X.env.scope x := by first | exact .inl rfl | exact .inr (.inl rfl) | exact .inr (.inr rfl)) (hd : (x == ("__debug__" : Str)) = false := by decide) (hcd : (x == ("__classdict__" : Str)) = false := by decide)
    (he : starEach [.Name x p2] X.env = (false, eval (.Name x p2) X.env) :: starEach [] X.env := by rfl) : PE X (.Call (.Name "len" p) [.Name x p2] [] pos) (tD C (dLenO i)) :=
  pe_to (pe_callB call_len_seq hg hm PySem.boot_len (pa_cons (pe_var hi hv hd hcd) pa_nil he) (by decide) (by decide) he rfl) fun σ H Q ⟨A, H0, G, ρ, d, en, sm, hd, k⟩ => by
    obtain ⟨ds, h1, hd⟩ := obind hd
    cases hd
    obtain ⟨a, vs, p1, p2, p3, p4, p5, p6⟩ := en.own i ds (ownD_ok h1)
    exact ⟨_, p1, a, vs, rfl, .inl (.of p2), by rw [p5.len]; exact k G H _ (.refl sm) (.int _)⟩
def dTruO (i : Nat) : List Sl → Option Bool := fun ρ => (ownD i ρ).bind fun ds => some (!ds.isEmpty)
theorem dt_truthO {i : Nat} {x : Str} {p : Pos} (hi : X.N[i]? = some x := by rfl) (hv : Vis X.env.scope x := by first | exact .inl rfl | exact .inr (.inl rfl) | exact .inr (.inr rfl)) (hd : (x == ("__debug__" : Str)) = false := by decide) (hcd : (x == ("__classdict__" : Str)) = false := by decide)
    (he : ∀ whole, isTrue (.Name x p) X.env whole = (do let v ← whole; standAt (Expr.Name x p).pos; holding [v] (truthy v)) := by intro _; rfl) : PT X (.Name x p) (tB C (dTruO i)) :=
  pt_to (pt_truth (pe_var hi hv hd hcd) he) fun σ H Q ⟨A, H0, G, ρ, d, en, sm, hd, k⟩ => by
    obtain ⟨ds, h1, hd⟩ := obind hd
    cases hd
    obtain ⟨a, vs, p1, p2, p3, p4, p5, p6⟩ := en.own i ds (ownD_ok h1)
    exact ⟨_, p1, _, .inl ⟨vs, .of p2, rfl⟩, by rw [emp_rp p5]; exact k G H _ (.refl sm) rfl⟩
/-- xs[e] = v -/
def sSetIx (i : Nat) (de dj : List Sl → Option D) : List Sl → Option Out := fun ρ => (de ρ).bind fun d => (ownD i ρ).bind fun ds => (dj ρ).bind fun j => match j with
  | .int k => (ixN ds.length k).bind fun n => some (.nx (ρ.set i (.own (ds.set n d))))
  | _ => none
theorem ds_setIx {i : Nat} {x : Str} {e j : Expr} {de dj : List Sl → Option D} {p spos : Pos} (he : PE X e (tD C de)) (hj : PE X j (tD C dj)) (hi : X.N[i]? = some x := by rfl) (hv : Vis X.env.scope x := by first | exact .inl rfl | exact .inr (.inl rfl) | exact .inr (.inr rfl)) (hd : (x == ("__debug__" : Str)) = false := by decide) (hcd : (x == ("__classdict__" : Str)) = false := by decide)
    (ha : ∀ v, assign (.Subscript (.Name x p) j spos) X.env v = (do
      let ov ← holding [v] (eval (.Name x p) X.env)
      let iv ← holding [v, ov] (eval j X.env)
      standAt spos
      holding [v, ov, iv] (setItem ov iv v)
      release [v, ov, iv] []) := by intro _; rfl) (hs : swapsWithSole [.Subscript (.Name x p) j spos] e pos.line X.env = pure false := by rfl) (hw : swappedStores [.Subscript (.Name x p) j spos] e X.env = pure none := by rfl)
    (h1 : (assignEach [.Subscript (.Name x p) j spos] X.env).map (·.2) = [assign (.Subscript (.Name x p) j spos) X.env] := by rfl) :
    PS X (.Assign [.Subscript (.Name x p) j spos] e pos) (tS C (sSetIx i de dj)) :=
  ps_to (ps_asg he (pg_sub (pe_var hi hv hd hcd) hj set_list ha) hs hw h1) fun E σ H ⟨A, G0, H0, G, ρ, o, x0, en, hd, fin⟩ => by
    obtain ⟨d, h1, hd⟩ := obind hd
    obtain ⟨ds, h2, hd⟩ := obind hd
    obtain ⟨jd, h3, hd⟩ := obind hd
    have ho := ownD_ok h2
    obtain ⟨a, vs, p1, p2, p3, p4, p5, p6⟩ := en.own i ds ho
    refine ⟨A, H0, G, ρ, d, en, x0.s, h1, fun G1 H1 v x1 r1 => ⟨_, p1, A, H0, G1, ρ, jd, en.ext x1, x1.s, h3, fun G2 H2 y x2 r2 => ?_⟩⟩
    split at hd
    · obtain ⟨n, h4, hd⟩ := obind hd
      cases hd
      cases r2
      have x12 := x1.trans x2
      refine ⟨a, vs, _, n, rfl, rfl, x12.h _ _ p2, by rw [p5.len]; exact h4, ?_⟩
      exact fin G2 _ σ x12.g (grow_ext (x0.trans x12) (x12.f _ _ p2 p3) p4) ((en.ext x12).grow ho p1 ((p5.mono x12.g).set (r1.mono x2.g) n))
    · cases hd
end
/-! ### a def -/
def start0 (n : Nat) (ds : List D) : List Sl := ds.map Sl.val ++ List.replicate (n - ds.length) Sl.off
def runD (np n : Nat) (den : List Sl → Option Out) : List D → Option D := fun ds => if ds.length == np then (den (start0 n ds)).bind fun o => match o with
    | .rt d => some d
    | .nx _ => some .non
    | _ => none
  else none
theorem start_en {C : Addr} {A : List Addr} {G H : Hp} {N : List Str} {vs : List V} {ds : List D} (cl : Cel A G H) (r : RpAll C A G vs ds) (h : vs.length ≤ N.length) : En C A H G H (L2.start N vs) (start0 N.length ds) := by
  have hl := r.len
  refine ⟨?_, fun i d e => ?_, fun i l e => ?_, fun i j l m a e => ?_, cl⟩
  · unfold L2.start start0
    rw [List.length_append, List.length_append, List.length_map, List.length_map, List.length_replicate, List.length_replicate]
    omega
  · unfold start0 at e
    unfold L2.start
    by_cases hi : i < ds.length
    · rw [List.getElem?_append_left (by simpa using hi), List.getElem?_map, List.getElem?_eq_getElem hi] at e
      cases e
      obtain ⟨v, h1, h2⟩ := r.get (List.getElem?_eq_getElem hi)
      refine ⟨v, ?_, h2⟩
      rw [List.getElem?_append_left (by rw [List.length_map]; omega), List.getElem?_map, h1]
      rfl
    · rw [List.getElem?_append_right (by simpa using hi), List.getElem?_replicate] at e
      split at e <;> cases e
  all_goals
    unfold start0 at e
    by_cases hi : i < ds.length
    · rw [List.getElem?_append_left (by simpa using hi), List.getElem?_map, List.getElem?_eq_getElem hi] at e
      cases e
    · rw [List.getElem?_append_right (by simpa using hi), List.getElem?_replicate] at e
      split at e <;> cases e
section
variable {P : Program} {w : World} {K : PySem.W.Frag} {mg : Str → Option Value} {base : Heap}
theorem fn_den {C : Addr} {x qual : Str} {st : Stmt} {f : Addr} {fd : FuncData} {N ps : List Str} {k : Nat} {den : List Sl → Option Out} (F : Fun K x qual st f fd) (S : FnScope N ps (defScope st))
    (hbody : ∀ (cdv : Value) (A : Around) (outer : List Env) (s : Shared) (H : Hp) (E : XK), Room k (A.deeper (envOfC qual (defScope st) s.heap.objs.size f cdv)) →
      PSs (cxOf CX0 P w K mg base N qual (defScope st) f cdv A outer s H E).nox (defBody st) (tS C den)) : FnOk P w K mg base CX0 (k + 1) f fd ps (SpD C (runD ps.length N.length den)) := by
  have hpl : ps.length ≤ N.length := by have := congrArg List.length S.pre; rw [List.length_take] at this; omega
  refine F.ok S (fun vs H Q E h => ?_) (fun cdv A outer s H vs Q E hr h => ⟨_, hbody cdv A outer s H E hr, ?_⟩)
  · obtain ⟨A, G, ds, d, cl, sm, r, hd, _⟩ := h
    unfold runD at hd
    split at hd
    · rename_i hl
      rw [r.len]
      exact beq_iff_eq.mp hl
    · cases hd
  · obtain ⟨A, G, ds, d, cl, sm, r, hd, fin⟩ := h
    unfold runD at hd
    split at hd
    · rename_i hl
      obtain ⟨o, h1, hd⟩ := obind hd
      refine ⟨A, G, H, G, _, o, .refl sm, start_en cl r (by rw [r.len, beq_iff_eq.mp hl]; exact hpl), h1, ?_⟩
      cases o with
      | rt d' => cases hd; exact fun G1 H1 v x1 r1 => fin G1 H1 v x1 r1
      | nx ρ => cases hd; exact fun G1 H1 σ1 s1 x1 en1 => fin G1 H1 .non x1 .non
      | bk ρ => cases hd
      | ct ρ => cases hd
    · cases hd
end
end DN

set_option maxHeartbeats 4000000
/-! tuple * n for n up to 1 -/
namespace DN
open PySem PySem.Spec PyProof.Rows L2 KG
theorem tuple_mulN (l : Addr) (items : Array Value) (n : Nat) (dd : Option Addr) (sl : Array (Option Value)) (x : Int) (u : Tok) (c0 : (decide (x < -(2 ^ 63)) || decide (x ≥ 2 ^ 63)) = false) (c1 : (items.isEmpty || x == 1) = false) (c2 : (decide (x ≤ 0) || items.isEmpty) = true) (hsz : (#[] : Array Value).size ≤ sizeLine) :
    Meets (Builtin.«tuple.__mul__» ⟨[.ref l, .int x u], []⟩) (fun _ R s => s.heap.get? l = some { cls := .type "tuple", dict := dd, data := .seq items n, slots := sl } ∧
      R (.ok (.ret (Value.ref s.heap.objs.size))) { s with heap := s.heap.push { cls := Value.type "tuple", data := Data.seq #[] }, toks := s.toks }) :=
  .of_wp fun prog w A R s h => by
    obtain ⟨hp0, g0, d0, tk0, os0⟩ := s
    obtain ⟨hl, h⟩ := h
    have f1 := AutoSeq1.idx_int
    wp_walk using wpAny_loadPart' hl
    repeat (first | (refine wpAny_ite_false (decide_eq_false (by rw [c0]; exact Bool.false_ne_true)) ?_; wp_walk using wpAny_loadPart' hl) | (refine wpAny_ite_false (decide_eq_false (by rw [c1]; exact Bool.false_ne_true)) ?_; wp_walk using wpAny_loadPart' hl) | (refine wpAny_ite_true (decide_eq_true c2) ?_; wp_walk using wpAny_loadPart' hl) | (refine wpAny_ite_false (decide_eq_false (Nat.not_lt.mpr hsz)) ?_; wp_walk using wpAny_loadPart' hl))
    exact ⟨_, rfl, h⟩
theorem tuple_mul1 (l : Addr) (items : Array Value) (n : Nat) (sl : Array (Option Value)) (dd : Option Addr) (u : Tok) (c0 : (decide ((1 : Int) < -(2 ^ 63)) || decide ((1 : Int) ≥ 2 ^ 63)) = false) (c1 : (items.isEmpty || (1 : Int) == 1) = true) :
    Meets (Builtin.«tuple.__mul__» ⟨[.ref l, .int 1 u], []⟩) (fun _ R s => s.heap.get? l = some { cls := .type "tuple", dict := dd, data := .seq items n, slots := sl } ∧
      R (.ok (.ret (Value.ref l))) s) :=
  .of_wp fun prog w A R s h => by
    obtain ⟨hp0, g0, d0, tk0, os0⟩ := s
    obtain ⟨hl, h⟩ := h
    have f1 := AutoSeq1.idx_int
    wp_walk using wpAny_loadPart' hl
    repeat (first | (refine wpAny_ite_false (decide_eq_false (by rw [c0]; exact Bool.false_ne_true)) ?_; wp_walk using wpAny_loadPart' hl) | (refine wpAny_ite_true (decide_eq_true c1) ?_; wp_walk using wpAny_loadPart' hl))
    exact ⟨_, rfl, h⟩
def rRepN (K : PySem.W.Frag) : R2 := fun x y H Q => ∃ l k xs, x = .ref l ∧ y = .int k ∧ SqT K H l xs ∧ xs ≠ [] ∧ ((k ≤ 0 ∧ -1000000 ≤ k ∧ ∀ p, H p = none → Q (.ref p) (upd H p (.tup []))) ∨ (k = 1 ∧ Q (.ref l) H))
theorem op_repN {X : Cx} : OpR X (binaryOp .Mult) (rRepN X.K) := by
  intro pins s σ H x y v u Q I rx ry h
  obtain ⟨l, k, xs, rfl, rfl, hT, hne, q⟩ := h
  cases rx
  obtain ⟨t, rfl⟩ := ry
  obtain ⟨its, r, ⟨⟨cl0, dd, dt0, sl⟩, ho, hc, n, hd⟩, hsz0⟩ := I.tuple hT
  simp only at hc hd
  subst hc hd
  have hLen : its.length = xs.length := r.length.symm
  have hi : its.toArray.isEmpty = false := by
    cases its with
    | nil => exact absurd (List.eq_nil_of_length_eq_zero hLen.symm) hne
    | cons a b => rfl
  rcases q with ⟨h0, h1, q⟩ | ⟨rfl, q⟩
  · refine wpAny_binaryOp_repeat_ref (T := "tuple") (U := "int") (by decide) ⟨_, ho, rfl⟩ (fun s' => typeIs_int s' k t) noFill_tuple_mul F.fills_int_mul F.slot_int_rmul repeat_tuple F.slot_int_index.lookup
      (call_meets F.slot_int_rmul (typeIs_int s k t) F.entry_int_rmul (F.args_int_rmul_2 _ _) (int_rmul_tuple k t l its.toArray n dd sl)
        ⟨ho, rfl, ⟨_, ho, rfl⟩, call_meets F.slot_tuple_mul ⟨_, ho, rfl⟩ F.entry_tuple_mul (F.args_tuple_mul_2 _ _) (tuple_mulN l its.toArray n dd sl k t (by
          have e : (2 : Int) ^ 63 = 9223372036854775808 := by decide
          rw [e, Bool.or_eq_false_iff]; exact ⟨decide_eq_false (by omega), decide_eq_false (by omega)⟩) (by rw [hi, Bool.false_or]; exact beq_eq_false_iff_ne.mpr (by omega)) (by rw [hi, Bool.or_false]; exact decide_eq_true h0) (by show 0 ≤ sizeLine; decide)) ⟨ho, ?_⟩⟩)
    refine ⟨.ref s.heap.objs.size, _, I.laid (t' := s.toks) (o := .tup []) (fun b ob q => Heap.get?_push_of_some _ q) (Nat.le_refl _) ?_, rfl, q _ (I.hok.fresh (Nat.le_refl _))⟩
    exact ⟨by show 0 ≤ sizeLine; decide, [], .nil, IsTup.new _ _⟩
  · refine wpAny_binaryOp_repeat_ref (T := "tuple") (U := "int") (by decide) ⟨_, ho, rfl⟩ (fun s' => typeIs_int s' 1 t) noFill_tuple_mul F.fills_int_mul F.slot_int_rmul repeat_tuple F.slot_int_index.lookup
      (call_meets F.slot_int_rmul (typeIs_int s 1 t) F.entry_int_rmul (F.args_int_rmul_2 _ _) (int_rmul_tuple 1 t l its.toArray n dd sl)
        ⟨ho, rfl, ⟨_, ho, rfl⟩, call_meets F.slot_tuple_mul ⟨_, ho, rfl⟩ F.entry_tuple_mul (F.args_tuple_mul_2 _ _) (tuple_mul1 l its.toArray n sl dd t (by decide) (by rw [hi]; rfl)) ⟨ho, ?_⟩⟩)
    exact ⟨.ref l, H, I, rfl, q⟩
end DN

set_option maxHeartbeats 1000000
/-! more expressions by what they compute -/
namespace DN
open PySem PySem.Spec PyProof.Rows L2 KG
section
variable {X : Cx} {C : Addr} {A : List Addr} {pos : Pos}
/-! * -/
def fMul : D → D → Option D
  | .int a, .int b => if cMul a b then some (.int (a * b)) else none
  | .tup ds, .int k => if !ds.isEmpty && decide (-1000000 ≤ k) && decide (k ≤ 1000) && decide (ds.length ≤ 1000) then some (.tup (List.replicate k.toNat ds).flatten) else none
  | .lst ds, .int k => if decide (-1000000 ≤ k) && decide (k ≤ 1000) && decide (ds.length ≤ 100) then some (.lst (List.replicate k.toNat ds).flatten) else none
  | _, _ => none
def rMulA (K : PySem.W.Frag) : R2 := fun x y H Q => rI CMulW (fun i j => .int (i * j)) x y H Q ∨ rRepT K x y H Q ∨ rRepN K x y H Q ∨ rRep x y H Q
theorem op_mulA : OpR X (binaryOp .Mult) (rMulA X.K) := op_mulW.or (op_repT.or (op_repN.or op_rep))
theorem cMul_ok (i j : Int) (h : cMul i j = true) : CMulW i j := by
  unfold cMul at h
  unfold CMulW
  exact of_decide_eq_true h
theorem is_mul {K : PySem.W.Frag} : Is2 C (rMulA K) fMul := fun A G H x y a b d Q sm ra rb hd k => by
  unfold fMul at hd
  split at hd
  · obtain ⟨hc, rfl⟩ := oif hd
    cases ra; cases rb
    exact .inl ⟨_, _, rfl, rfl, cMul_ok _ _ hc, k G H _ (.refl sm) (.int _)⟩
  · obtain ⟨hc, rfl⟩ := oif hd
    simp only [Bool.and_eq_true, decide_eq_true_eq, Bool.not_eq_true'] at hc
    obtain ⟨⟨⟨h1, h2⟩, h3⟩, h4⟩ := hc
    cases rb
    cases ra with
    | tup e r =>
      rename_i ds n a vs
      have hne : vs ≠ [] := fun z => by
        subst z
        cases r
        simp at h1
      have nw : ∀ p, H p = none → Q (.ref p) (upd H p (.tup (List.replicate n.toNat vs).flatten)) := fun p np => k _ _ _ (.new sm np _) (.tup upd_same ((r.rep n.toNat).mono (same_new (none_of sm np) _)))
      by_cases c2 : 2 ≤ n
      · exact .inr (.inl ⟨a, n, vs, rfl, rfl, .of (sm _ _ e), hne, c2, h3, by rw [r.len]; exact h4, nw⟩)
      · by_cases c1 : n = 1
        · subst c1
          refine .inr (.inr (.inl ⟨a, 1, vs, rfl, rfl, .of (sm _ _ e), hne, .inr ⟨rfl, k _ _ _ (.refl sm) ?_⟩⟩))
          have : (List.replicate (1 : Int).toNat ds).flatten = ds := by simp [List.replicate]
          rw [this]
          exact .tup e r
        · refine .inr (.inr (.inl ⟨a, n, vs, rfl, rfl, .of (sm _ _ e), hne, .inl ⟨by omega, h2, fun p np => ?_⟩⟩))
          have := nw p np
          have z : n.toNat = 0 := by omega
          rw [z] at this
          exact this
  · obtain ⟨hc, rfl⟩ := oif hd
    simp only [Bool.and_eq_true, decide_eq_true_eq] at hc
    obtain ⟨⟨h2, h3⟩, h4⟩ := hc
    cases rb
    cases ra with
    | lst e r =>
      rename_i ds n a vs
      have p63 : (2 : Int) ^ 63 = 9223372036854775808 := by decide
      refine .inr (.inr (.inr ⟨a, n, vs, rfl, rfl, sm _ _ e, by rw [p63]; omega, by rw [p63]; omega, ?_, fun p np => k _ _ _ (.new sm np _) (.lst upd_same ((r.rep n.toNat).mono (same_new (none_of sm np) _)))⟩))
      rw [r.len, sizeLine_eq]
      have : ds.length * n.toNat ≤ 100 * 1000 := Nat.mul_le_mul h4 (by omega)
      omega
  · cases hd
theorem dn_mul {a b : Expr} {da db : List Sl → Option D} (ha : PE X a (tD C da)) (hb : PE X b (tD C db)) : PE X (.BinOp a .Mult b pos) (tD C (d2 fMul da db)) := dn_op is_mul op_mulA ha hb
/-! xs[::-1] of a list -/
def fBack : D → Option D
  | .lst ds => some (.lst ds.reverse)
  | _ => none
theorem dn_back {e : Expr} {de : List Sl → Option D} {k : Nat} {p1 p2 p3 : Pos} (he : PE X e (tD C de)) : PE X (.Subscript e (.Slice none none (some (.UnaryOp .USub (.Constant (.int 1) k p1) p2)) p3) pos) (tD C (d1 fBack de)) :=
  pe_to (pe_revL he) fun σ H Q ⟨A, H0, G, ρ, z, en, sm, hd, k⟩ => by
    obtain ⟨a, h1, hd⟩ := obind hd
    unfold fBack at hd
    split at hd
    · cases hd
      refine ⟨A, H0, G, ρ, _, en, sm, h1, fun G1 H1 x x1 r1 => ?_⟩
      cases r1 with
      | lst e r => exact ⟨_, _, rfl, .of (x1.s _ _ e), fun p np => k _ _ _ (x1.trans (.new x1.s np _)) (.lst upd_same (r.reverse.mono (same_new (none_of x1.s np) _)))⟩
    · cases hd
/-! isqrt -/
def fIsqrt : List D → Option D
  | [.int a] => if decide (0 ≤ a) && decide (a.toNat.log2 < 13470) then some (.int ((Float64.isqrt a.toNat : Nat) : Int)) else none
  | _ => none
def rIsqrt : List V → Hp → VK → Prop := fun vs H Q => ∃ a : Int, vs = [.int a] ∧ 0 ≤ a ∧ a.toNat.log2 < 13470 ∧ Q (.int ((Float64.isqrt a.toNat : Nat) : Int)) H
theorem cr_isqrt : CallR X (.builtin "math.isqrt") rIsqrt := by
  intro pins s σ H vs us Q I r h
  obtain ⟨a, rfl, h0, h1, q⟩ := h
  obtain ⟨u, rfl, ru⟩ := vals1 r
  obtain ⟨t, rfl⟩ := ru
  exact call_function_meets PySem.W.MGF.kind_isqrt PySem.W.MGF.plain_isqrt PySem.W.MGF.entry_isqrt (PySem.W.MGF.args_isqrt _) (PySem.W.mg_run_isqrt a t (by omega) (by omega) (by omega)).meets ⟨.int _, H, I.tok _, ⟨_, rfl⟩, q⟩
theorem is_isqrt : IsN C rIsqrt fIsqrt := fun A G H xs ds d Q sm r hd k => by
  unfold fIsqrt at hd
  split at hd
  · obtain ⟨hc, rfl⟩ := oif hd
    rw [Bool.and_eq_true] at hc
    cases r with
    | cons r1 r2 => cases r2; cases r1; exact ⟨_, rfl, of_decide_eq_true hc.1, of_decide_eq_true hc.2, k G H _ (.refl sm) (.int _)⟩
  · cases hd
/-! any of ints in a tuple, of bools in a list -/
theorem truth_ints {prog : Program} {w : World} {A : Around} {ns : List Int} {its : List Value} (e : IntsAre its ns) :
    TruthOf prog w A (fun i v => its.toArray[i]? = some v) (fun i => ns.getD i 0 != 0) := fun i v s Q E hv hq => by
  have hv' : its[i]? = some v := by simpa using hv
  obtain ⟨n, t, hn, rfl⟩ : ∃ n t, ns[i]? = some n ∧ v = Value.int n t := by
    clear hv hq
    induction e generalizing i with
    | nil => simp at hv'
    | cons m t e ih =>
      cases i with
      | zero => simp at hv'; subst hv'; exact ⟨_, _, rfl, rfl⟩
      | succ i => exact ih i (by simpa using hv')
  have hg : ns.getD i 0 = n := by rw [List.getD_eq_getElem?_getD, hn] <;> rfl
  have hq' : Q (ns.getD i 0 != 0) s := hq
  rw [hg] at hq'
  exact PySem.P.truthy_int hq'
theorem iter_anyT {prog : Program} {w : World} {A : Around} {E : Value → Shared → Prop} {s : Shared} {l : Addr} {items : Array Value} {Q : Value → Shared → Prop} (hl : s.heap.IsTuple l items)
    (h : ∀ s₂ : Shared, s₂ = { s with heap := s.heap.push { cls := .type "tuple_iterator", data := .fields #[.ref l, .int 0 0] } } →
      (s₂.heap.IsTupleIter s.heap.objs.size l 0 ∧ s₂.heap.IsTuple l items) → l ≠ s.heap.objs.size → Q (.ref s.heap.objs.size) s₂) : wpAny (model prog w) A (pyIter (.ref l)) Q E s := by
  have hlt : l < s.heap.objs.size := by obtain ⟨_, e, _⟩ := hl; exact Heap.lt_size e
  exact wpAny_pyIter_tuple hl (h _ rfl ⟨⟨_, Heap.get?_push_size _ rfl, rfl, rfl⟩, hl.push _⟩ (Nat.ne_of_lt hlt))
theorem any_rangeI : ∀ ns : List Int, (List.range ns.length).any (fun i => ns.getD i 0 != 0) = ns.any (· != 0)
  | [] => rfl
  | b :: bs => by
    rw [List.length_cons, List.range_succ_eq_map, List.any_cons, List.any_map, List.any_cons, ← any_rangeI bs]
    all_goals rfl
def rAnyT (K : PySem.W.Frag) : List V → Hp → VK → Prop := fun vs H Q => ∃ (a : Addr) (ns : List Int), vs = [V.ref a] ∧ SqT K H a (ns.map V.int) ∧ Q (.bl (ns.any (· != 0))) H
theorem cr_anyT (hc : X.calm = true) : CallR X (.builtin "any") (rAnyT X.K) := by
  intro pins s σ H vs us Q I r h
  obtain ⟨a, ns, rfl, hs, q⟩ := h
  obtain ⟨its, rv, hl, _⟩ := I.tuple hs
  obtain ⟨u, rfl, ru⟩ := vals1 r
  cases ru
  have hb := intsAre_of rv
  have hlen : its.length = ns.length := by have := rv.length; rw [List.length_map] at this; exact this.symm
  refine call_any_walk (iter_anyT (show s.heap.IsTuple a its.toArray from hl) fun s₂ e2 st hne => ?_)
  subst e2
  refine ⟨_, _, _, _, _, _, _, rfl, Walks.tuple (A := X.A.in1) (I.ok.hd hc) _ a hne its.toArray, st, truth_ints hb, fun h' tk hk => ?_⟩
  refine ⟨.bl _, H, I.kept fun b o eo => hk b o (fun hmem => ?_) (Heap.get?_push_of_some _ eo), ?_, q⟩
  · rcases List.mem_cons.mp hmem with e1 | hmem
    · exact absurd (e1 ▸ Heap.lt_size eo) (Nat.lt_irrefl _)
    · cases hmem
  · show Value.bool _ = Value.bool _
    rw [← any_rangeI, List.size_toArray, hlen]
def bools : List D → Option (List Bool)
  | [] => some []
  | .bl i :: ds => (bools ds).bind fun r => some (i :: r)
  | _ :: _ => none
theorem bools_rp {G : Hp} : ∀ {ds : List D} {vs : List V} {ns : List Bool}, RpAll C A G vs ds → bools ds = some ns → vs = ns.map V.bl
  | [], _, _, r, h => by cases r; cases h; rfl
  | d :: ds, _, _, r, h => by
    cases r with
    | cons r1 r2 =>
      unfold bools at h
      split at h
      · rename_i q; cases q
      · rename_i q
        cases q
        obtain ⟨ns, h1, h2⟩ := obind h
        cases h2
        cases r1
        rw [bools_rp r2 h1]
        rfl
      · cases h
def fAny : List D → Option D
  | [.tup ds] => (intL ds).bind fun ns => some (.bl (ns.any (· != 0)))
  | [.lst ds] => (bools ds).bind fun bs => some (.bl (bs.any id))
  | _ => none
def rAnyA (K : PySem.W.Frag) : List V → Hp → VK → Prop := fun vs H Q => rAnyT K vs H Q ∨ rAny K vs H Q
theorem cr_anyA (hc : X.calm = true) : CallR X (.builtin "any") (rAnyA X.K) := (cr_anyT hc).or (cr_any hc)
theorem is_any {K : PySem.W.Frag} : IsN C (rAnyA K) fAny := fun A G H xs ds d Q sm r hd k => by
  unfold fAny at hd
  split at hd
  · obtain ⟨ns, h1, hd⟩ := obind hd
    cases hd
    cases r with
    | cons r1 r2 =>
      cases r2
      cases r1 with
      | tup e ra =>
        have hv := intL_rp ra h1
        subst hv
        exact .inl ⟨_, ns, rfl, .of (sm _ _ e), k G H _ (.refl sm) (.bl _)⟩
  · obtain ⟨ns, h1, hd⟩ := obind hd
    cases hd
    cases r with
    | cons r1 r2 =>
      cases r2
      cases r1 with
      | lst e ra =>
        have hv := bools_rp ra h1
        subst hv
        exact .inr ⟨_, ns, rfl, .of (sm _ _ e), k G H _ (.refl sm) (.bl _)⟩
  · cases hd
/-! a module's int -/
theorem dn_globI {x : Str} {i : Int} (hg : Gl X x) (hm : ∃ t : Tok, X.mg x = some (.int i t)) (hd : (x == ("__debug__" : Str)) = false := by decide) : PE X (.Name x pos) (tD C (dK (.int i))) := by
  obtain ⟨t, hm⟩ := hm
  exact pe_to (pe_glob (v := .int i) hg hm ⟨t, rfl⟩ hd) (d_const fun _ _ => .int i)
/-! name = [..] on one line -/
theorem ds_setLc {i : Nat} {y : Str} {py spos : Pos} {elt tg iter : Expr} {ifs : List Expr} {scope : Scope} {own : List (Str × Nat)} {is : List Nat} {di : List Sl → Option (List D)} {g : D → List Sl → Option (List Sl)} {tt : List Sl → Option Bool} {te : List Sl → Option D} (hc : X.calm = true) (hN : X.N.Nodup) (hy : X.N[i]? = some y) (hyl : X.env.scope.names.lookup y = some .local)
    (hsw : swapsWith (.ListComp elt [⟨tg, iter, ifs, 0⟩] scope pos) (some (.Name y py)) spos.line X.env = pure true) (hi : PI X tg iter (tI C di)) (ok : BlkOk X.N X.env.scope scope own)
    (hg : ∀ (s : Shared) (H : Hp) (A : Addr) (cl : List (Str × Addr)) (fp : List Addr), PG (X.blk s H scope (compEnvC scope cl A X.env) fp) tg (tG C is g)) (ht : ∀ (s : Shared) (H : Hp) (A : Addr) (cl : List (Str × Addr)) (fp : List Addr), PTs (X.blk s H scope (compEnvC scope cl A X.env) fp) ifs (tB C tt))
    (he : ∀ (s : Shared) (H : Hp) (A : Addr) (cl : List (Str × Addr)) (fp : List Addr), PE (X.blk s H scope (compEnvC scope cl A X.env) fp) elt (tD C te)) (hv : ∀ i ∈ is, i ∈ own.map (·.2) := by decide) (hs : ∀ x, foldedSetIterable iter X.env x = pure x := by intro _; rfl) :
    PS X (.Assign [.Name y py] (.ListComp elt [⟨tg, iter, ifs, 0⟩] scope pos) spos) (tS C (sSet i (dLc di g tt te (own.map (·.2))))) :=
  ps_to (ps_setLc hc hN hy hyl hsw hi ok hg ht he hs) fun E σ H ⟨A, G0, H0, G, ρ, o, x0, en, hd, fin⟩ => by
    obtain ⟨d, h1, hd⟩ := obind hd
    cases hd
    exact lc_ok hv σ H _ ⟨A, H0, G, ρ, d, en, x0.s, h1, fun G1 H1 v x1 r1 => fin G1 H1 _ x1.g (x0.trans x1) ((en.ext x1).put i r1)⟩
/-! [.. for a in x for b in y] -/
def unOwn : Sl → Sl
  | .own _ => .off
  | s => s
def noOwn (ρ : List Sl) : List Sl := ρ.map unOwn
theorem noOwn_not {ρ : List Sl} {i : Nat} {l : List D} (h : (noOwn ρ)[i]? = some (.own l)) : False := by
  unfold noOwn at h
  rw [List.getElem?_map] at h
  cases q : ρ[i]? with
  | none => rw [q] at h; cases h
  | some s =>
    rw [q] at h
    cases s <;> cases h
theorem En.noOwn {C : Addr} {A : List Addr} {H0 G H : Hp} {σ : L2.St} {ρ : List Sl} (e : En C A H0 G H σ ρ) : En C A H0 G H σ (noOwn ρ) := by
  refine ⟨by unfold DN.noOwn; rw [List.length_map]; exact e.len, fun i d h => ?_, fun i l h => (noOwn_not h).elim, fun i j l m a h => (noOwn_not h).elim, e.cel⟩
  refine e.val i d ?_
  unfold DN.noOwn at h
  rw [List.getElem?_map] at h
  cases q : ρ[i]? with
  | none => rw [q] at h; cases h
  | some s =>
    rw [q] at h
    cases s with
    | off => cases h
    | own l => cases h
    | val d' => cases h; rfl
def lc2D (te : List Sl → Option D) (g1 : D → List Sl → Option (List Sl)) (ρ : List Sl) : List D → Option (List D)
  | [] => some []
  | d :: ds => (g1 d ρ).bind fun ρ1 => (te ρ1).bind fun y => (lc2D te g1 ρ ds).bind fun r => some (y :: r)
def lc1D (g : D → List Sl → Option (List Sl)) (di1 : List Sl → Option (List D)) (g1 : D → List Sl → Option (List Sl)) (te : List Sl → Option D) (vs1 : List Nat) (ρ : List Sl) : List D → Option (List D)
  | [] => some []
  | d :: ds => (g d ρ).bind fun ρ1 => (di1 ρ1).bind fun es => if decide (es.length ≤ 100) then (lc2D te g1 (wipeD (noOwn ρ1) vs1) es).bind fun a => (lc1D g di1 g1 te vs1 ρ ds).bind fun r => some (a ++ r) else none
def dLc2 (di : List Sl → Option (List D)) (g : D → List Sl → Option (List Sl)) (di1 : List Sl → Option (List D)) (g1 : D → List Sl → Option (List Sl)) (te : List Sl → Option D) (vs vs1 : List Nat) : List Sl → Option D := fun ρ =>
  (di ρ).bind fun ds => if decide (ds.length ≤ 100) then (lc1D g di1 g1 te vs1 (wipeD ρ vs) ds).bind fun r => some (.lst r) else none
theorem lc2_ok {is js vs vs1 : List Nat} {di di1 : List Sl → Option (List D)} {g g1 : D → List Sl → Option (List Sl)} {te : List Sl → Option D} (hv : ∀ i ∈ is, i ∈ vs) (hv1 : ∀ i ∈ js, i ∈ vs1) :
    ∀ σ H Q, tD C (dLc2 di g di1 g1 te vs vs1) σ H Q → tLc2 (tI C di) (tG C is g) (tB C bYes) (tI C di1) (tG C js g1) (tB C bYes) (tD C te) vs vs1 σ H Q := fun σ H Q ⟨A, H0, G, ρ, d, en, sm, hd, k⟩ => by
  obtain ⟨ds, h1, hd⟩ := obind hd
  split at hd
  · rename_i hz
    obtain ⟨r, h2, hd⟩ := obind hd
    cases hd
    have hz' : ds.length ≤ 100 := of_decide_eq_true hz
    refine ⟨A, H0, G, ρ, ds, en, sm, h1, fun J G1 H1 x1 wk Dl nD => ?_⟩
    have ng : G1 Dl = none := none_of x1.s nD
    have nDA : Dl ∉ A := fun z => by
      obtain ⟨⟨o, k1⟩, _⟩ := (en.ext x1).cel _ z
      rw [nD] at k1; cases k1
    refine ⟨fun i m H2 => m = ds.length - i ∧ i ≤ ds.length ∧ ∃ G2 ys rs rest, Ext G1 H1 G2 H2 ∧ G2 Dl = none ∧ H2 Dl = some (.lst ys) ∧ RpAll C A G2 ys rs ∧ rs.length ≤ 100 * i ∧ lc1D g di1 g1 te vs1 (wipeD ρ vs) (ds.drop i) = some rest ∧ rs ++ rest = r,
      ⟨ds.length, by simp, Nat.zero_le _, G1, [], [], r, .lay x1.s nD _, ng, upd_same, .nil, Nat.zero_le _, h2, rfl⟩, ?_⟩
    rintro i m H2 ⟨rfl, hi, G2, ys, rs, rest, x2, n2, e2, r2, hrs, hl, happ⟩
    obtain ⟨wstop, wgo⟩ := wk i G2 H2 x2.g x2.s
    by_cases lt : i < ds.length
    · have gd : ds[i]? = some ds[i] := List.getElem?_eq_getElem lt
      obtain ⟨go, yl⟩ := wgo _ gd
      rw [List.drop_eq_getElem_cons lt] at hl
      unfold lc1D at hl
      obtain ⟨ρ1, gg1, hl⟩ := obind hl
      obtain ⟨es, d1, hl⟩ := obind hl
      split at hl
      · rename_i hze
        have hze' : es.length ≤ 100 := of_decide_eq_true hze
        obtain ⟨as, i1, hl⟩ := obind hl
        obtain ⟨rest', t3, hl⟩ := obind hl
        cases hl
        refine .inr ⟨go, fun H' => ∃ G2 ys rs rest, Ext G1 H1 G2 H' ∧ G2 Dl = none ∧ H' Dl = some (.lst ys) ∧ RpAll C A G2 ys rs ∧ rs.length ≤ 100 * (i + 1) ∧ lc1D g di1 g1 te vs1 (wipeD ρ vs) (ds.drop (i + 1)) = some rest ∧ rs ++ rest = r,
          fun H' hN => ⟨ds.length - (i + 1), by omega, rfl, lt, hN⟩, fun x H3 hy => ?_⟩
        obtain ⟨G3, x3, r3⟩ := yl x H3 hy
        have en3 : En C A H0 G3 H3 (wipe σ vs) (wipeD ρ vs) := (((en.ext x1).ext x2).ext x3).wipe vs
        refine ⟨A, H0, G3, _, _, ρ1, en3, x3.s, r3, gg1, fun σ4 G4 H4 x4 en4 w4 => ⟨by rw [w4 vs hv, wipe_idem], A, H0, G4, ρ1, true, en4, x4.s, rfl, fun G5 H5 v x5 hv5 => ?_⟩⟩
        obtain rfl : v = true := hv5
        rw [if_pos rfl]
        refine ⟨A, H0, G5, ρ1, es, en4.ext x5, x5.s, d1, fun J1 G6 H6 x6 wk1 => ?_⟩
        have e6 : H6 Dl = some (.lst ys) := x6.h _ _ (x5.h _ _ (x4.h _ _ (x3.h _ _ e2)))
        have n6 : G6 Dl = none := x6.f _ _ (x5.h _ _ (x4.h _ _ (x3.h _ _ e2))) (x5.f _ _ (x4.h _ _ (x3.h _ _ e2)) (x4.f _ _ (x3.h _ _ e2) (x3.f _ _ e2 n2)))
        have X6 : Ext G1 H1 G6 H6 := (((x2.trans x3).trans x4).trans x5).trans x6
        have r6 : RpAll C A G6 ys rs := (((r2.mono x3.g).mono x4.g).mono x5.g).mono x6.g
        have en6 : En C A H0 G6 H6 σ4 (noOwn ρ1) := ((en4.ext x5).ext x6).noOwn
        refine ⟨fun j k H7 => k = es.length - j ∧ j ≤ es.length ∧ ∃ G7 zs qs rest1, Same G6 G7 ∧ Ext G1 H1 G7 H7 ∧ G7 Dl = none ∧ H7 Dl = some (.lst zs) ∧ RpAll C A G7 zs qs ∧ qs.length ≤ 100 * i + j ∧ En C A H0 G7 H7 σ4 (noOwn ρ1) ∧ lc2D te g1 (wipeD (noOwn ρ1) vs1) (es.drop j) = some rest1 ∧ qs ++ (rest1 ++ rest') = r,
          ⟨es.length, by simp, Nat.zero_le _, G6, ys, rs, as, fun _ _ h => h, X6, n6, e6, r6, by omega, en6, i1, by rw [← happ]⟩, ?_⟩
        rintro j k2 H7 ⟨rfl, hj, G7, zs, qs, rest1, s7, X7, n7, e7, r7, hq7, en7, l7, ap7⟩
        obtain ⟨wstop1, wgo1⟩ := wk1 j G7 H7 s7 X7.s
        by_cases lt1 : j < es.length
        · have ge : es[j]? = some es[j] := List.getElem?_eq_getElem lt1
          obtain ⟨go1, yl1⟩ := wgo1 _ ge
          rw [List.drop_eq_getElem_cons lt1] at l7
          unfold lc2D at l7
          obtain ⟨ρ2, gg2, l7⟩ := obind l7
          obtain ⟨y, t2, l7⟩ := obind l7
          obtain ⟨rest2, t4, l7⟩ := obind l7
          cases l7
          refine .inr ⟨go1, fun H' => ∃ G7 zs qs rest1, Same G6 G7 ∧ Ext G1 H1 G7 H' ∧ G7 Dl = none ∧ H' Dl = some (.lst zs) ∧ RpAll C A G7 zs qs ∧ qs.length ≤ 100 * i + (j + 1) ∧ En C A H0 G7 H' σ4 (noOwn ρ1) ∧ lc2D te g1 (wipeD (noOwn ρ1) vs1) (es.drop (j + 1)) = some rest1 ∧ qs ++ (rest1 ++ rest') = r,
            fun H' hN => ⟨es.length - (j + 1), by omega, rfl, lt1, hN⟩, fun x H8 hy8 => ?_⟩
          obtain ⟨G8, x8, r8⟩ := yl1 x H8 hy8
          have en8 : En C A H0 G8 H8 (wipe σ4 vs1) (wipeD (noOwn ρ1) vs1) := (en7.ext x8).wipe vs1
          refine ⟨A, H0, G8, _, _, ρ2, en8, x8.s, r8, gg2, fun σ9 G9 H9 x9 en9 w9 => ⟨by rw [w9 vs1 hv1, wipe_idem], A, H0, G9, ρ2, true, en9, x9.s, rfl, fun G10 H10 v x10 hv10 => ?_⟩⟩
          obtain rfl : v = true := hv10
          rw [if_pos rfl]
          refine ⟨A, H0, G10, ρ2, y, en9.ext x10, x10.s, t2, fun G11 H11 yv x11 r11 => ?_⟩
          have xx := ((x8.trans x9).trans x10).trans x11
          have e11 : H11 Dl = some (.lst zs) := xx.h _ _ e7
          have n11 : G11 Dl = none := xx.f _ _ e7 n7
          have X11 := X7.trans xx
          have r11' : RpAll C A G11 zs qs := r7.mono xx.g
          have hlen : zs.length < sizeLine := by
            rw [r11'.len]
            exact sz_lt (decide_eq_true (show qs.length ≤ szB by unfold szB; omega))
          refine ⟨zs, e11, hlen, G11, zs ++ [yv], qs ++ [y], rest2, s7.trans xx.g, ⟨X11.g, fun b o q => ?_, fun b o q => ?_, X11.f⟩, n11, upd_same, r11'.append (.cons r11 .nil), ?_, ?_, t4, ?_⟩
          · rw [upd_ne (fun z => by rw [z, n11] at q; cases q)]; exact X11.s _ _ q
          · rw [upd_ne (ne_of_none q nD)]; exact X11.h _ _ q
          · rw [List.length_append, List.length_singleton]; omega
          · have e12 := en7.ext xx
            exact ⟨e12.len, e12.val, fun a l q => (noOwn_not q).elim, e12.sep, fun a ha => by
              obtain ⟨⟨o, k1⟩, k2⟩ := e12.cel a ha
              exact ⟨⟨o, by rw [upd_ne (fun z => by subst z; exact nDA ha)]; exact k1⟩, k2⟩⟩
          · rw [List.append_assoc]; exact ap7
        · have ei : j = es.length := by omega
          subst ei
          rw [List.drop_length] at l7
          cases l7
          exact .inl ⟨wstop1 rfl, G7, zs, qs, rest', X7, n7, e7, r7, by omega, t3, by simpa using ap7⟩
      · cases hl
    · have ei : i = ds.length := by omega
      subst ei
      rw [List.drop_length] at hl
      cases hl
      rw [List.append_nil] at happ
      subst happ
      refine .inl ⟨wstop rfl, k (upd G2 Dl (.lst ys)) H2 _ ⟨fun b o q => ?_, fun b o q => ?_, x1.h.trans x2.h, fun b o q q' => ?_⟩ (.lst upd_same (r2.mono (same_new n2 _)))⟩
      · rw [upd_ne (fun z => by rw [z] at q; have := x2.g _ _ (x1.g _ _ q); rw [n2] at this; cases this)]; exact x2.g _ _ (x1.g _ _ q)
      · by_cases z : b = Dl
        · subst z; rw [upd_same] at q; cases q; exact e2
        · rw [upd_ne z] at q; exact x2.s _ _ q
      · rw [upd_ne (ne_of_none (x1.h _ _ q) nD)]
        exact x2.f _ _ (x1.h _ _ q) (x1.f _ _ q q')
  · cases hd
theorem dn_lc2 {elt tg iter tg1 iter1 : Expr} {scope : Scope} {own : List (Str × Nat)} {is js vs1 : List Nat} {di di1 : List Sl → Option (List D)} {g g1 : D → List Sl → Option (List Sl)} {te : List Sl → Option D} (hc : X.calm = true) (hN : X.N.Nodup) (hi : PI X tg iter (tI C di)) (ok : BlkOk X.N X.env.scope scope own)
    (hg : ∀ (s : Shared) (H : Hp) (A : Addr) (cl : List (Str × Addr)) (fp : List Addr), PG (X.blk s H scope (compEnvC scope cl A X.env) fp) tg (tG C is g))
    (hi1 : ∀ (s : Shared) (H : Hp) (A : Addr) (cl : List (Str × Addr)) (fp : List Addr), PI (X.blk s H scope (compEnvC scope cl A X.env) fp) tg1 iter1 (tI C di1))
    (hg1 : ∀ (s : Shared) (H : Hp) (A : Addr) (cl : List (Str × Addr)) (fp : List Addr), PG (X.blk s H scope (compEnvC scope cl A X.env) fp) tg1 (tG C js g1))
    (he : ∀ (s : Shared) (H : Hp) (A : Addr) (cl : List (Str × Addr)) (fp : List Addr), PE (X.blk s H scope (compEnvC scope cl A X.env) fp) elt (tD C te)) (hv : ∀ i ∈ is, i ∈ own.map (·.2) := by decide) (hv1 : ∀ i ∈ js, i ∈ vs1 := by decide) (hw : ∀ i ∈ vs1, i ∈ own.map (·.2) := by decide) (hs : ∀ x, foldedSetIterable iter X.env x = pure x := by intro _; rfl) (hs1 : ∀ env x, foldedSetIterable iter1 env x = pure x := by intro _ _; rfl) :
    PE X (.ListComp elt [⟨tg, iter, [], 0⟩, ⟨tg1, iter1, [], 0⟩] scope pos) (tD C (dLc2 di g di1 g1 te (own.map (·.2)) vs1)) :=
  pe_to (pe_lc2 hc hN hi ok hw hg (fun _ _ _ _ _ => dts_nil) hi1 hg1 (fun _ _ _ _ _ => dts_nil) he hs hs1) (lc2_ok hv hv1)
theorem ds_setLc2 {i : Nat} {y : Str} {py spos : Pos} {elt tg iter tg1 iter1 : Expr} {scope : Scope} {own : List (Str × Nat)} {is js vs1 : List Nat} {di di1 : List Sl → Option (List D)} {g g1 : D → List Sl → Option (List Sl)} {te : List Sl → Option D} (hc : X.calm = true) (hN : X.N.Nodup) (hy : X.N[i]? = some y) (hyl : X.env.scope.names.lookup y = some .local)
    (hsw : swapsWith (.ListComp elt [⟨tg, iter, [], 0⟩, ⟨tg1, iter1, [], 0⟩] scope pos) (some (.Name y py)) spos.line X.env = pure true) (hi : PI X tg iter (tI C di)) (ok : BlkOk X.N X.env.scope scope own)
    (hg : ∀ (s : Shared) (H : Hp) (A : Addr) (cl : List (Str × Addr)) (fp : List Addr), PG (X.blk s H scope (compEnvC scope cl A X.env) fp) tg (tG C is g))
    (hi1 : ∀ (s : Shared) (H : Hp) (A : Addr) (cl : List (Str × Addr)) (fp : List Addr), PI (X.blk s H scope (compEnvC scope cl A X.env) fp) tg1 iter1 (tI C di1))
    (hg1 : ∀ (s : Shared) (H : Hp) (A : Addr) (cl : List (Str × Addr)) (fp : List Addr), PG (X.blk s H scope (compEnvC scope cl A X.env) fp) tg1 (tG C js g1))
    (he : ∀ (s : Shared) (H : Hp) (A : Addr) (cl : List (Str × Addr)) (fp : List Addr), PE (X.blk s H scope (compEnvC scope cl A X.env) fp) elt (tD C te)) (hv : ∀ i ∈ is, i ∈ own.map (·.2) := by decide) (hv1 : ∀ i ∈ js, i ∈ vs1 := by decide) (hw : ∀ i ∈ vs1, i ∈ own.map (·.2) := by decide) (hs : ∀ x, foldedSetIterable iter X.env x = pure x := by intro _; rfl) (hs1 : ∀ env x, foldedSetIterable iter1 env x = pure x := by intro _ _; rfl) :
    PS X (.Assign [.Name y py] (.ListComp elt [⟨tg, iter, [], 0⟩, ⟨tg1, iter1, [], 0⟩] scope pos) spos) (tS C (sSet i (dLc2 di g di1 g1 te (own.map (·.2)) vs1))) :=
  ps_to (ps_setLc2 hc hN hy hyl hsw hi ok hw hg (fun _ _ _ _ _ => dts_nil) hi1 hg1 (fun _ _ _ _ _ => dts_nil) he hs hs1) fun E σ H ⟨A, G0, H0, G, ρ, o, x0, en, hd, fin⟩ => by
    obtain ⟨d, h1, hd⟩ := obind hd
    cases hd
    exact lc2_ok hv hv1 σ H _ ⟨A, H0, G, ρ, d, en, x0.s, h1, fun G1 H1 v x1 r1 => fin G1 H1 _ x1.g (x0.trans x1) ((en.ext x1).put i r1)⟩
/-! a, b = x, y -/
def sPar (i j : Nat) (da : List Sl → Option (List D)) : List Sl → Option Out := fun ρ => (da ρ).bind fun l => match l with
  | [a, b] => some (.nx ((ρ.set i (.val a)).set j (.val b)))
  | _ => none
theorem ds_par {i j : Nat} {x y : Str} {a b : Expr} {da : List Sl → Option (List D)} {px py pt : Pos} {kt k2 pt2} (hc : X.calm = true) (hN : X.N.Nodup) (ha : PA X [a, b] (tA C da)) (hi : X.N[i]? = some x := by rfl) (hj : X.N[j]? = some y := by rfl) (hij : i ≠ j := by decide)
    (hx : X.env.scope.names.lookup x = some .local := by rfl) (hy : X.env.scope.names.lookup y = some .local := by rfl)
    (hw : swappedStores [.Tuple [.Name x px, .Name y py] kt pt] (.Tuple [a, b] k2 pt2) X.env = pure (some [x, y]) := by rfl)
    (hs : swapsWithSole [.Tuple [.Name x px, .Name y py] kt pt] (.Tuple [a, b] k2 pt2) pos.line X.env = pure false := by rfl) :
    PS X (.Assign [.Tuple [.Name x px, .Name y py] kt pt] (.Tuple [a, b] k2 pt2) pos) (tS C (sPar i j da)) :=
  ps_to (ps_par hc hN hi hj hij hx hy ha hw hs) fun E σ H ⟨A, G0, H0, G, ρ, o, x0, en, hd, fin⟩ => by
    obtain ⟨l, h1, hd⟩ := obind hd
    refine ⟨A, H0, G, ρ, l, en, x0.s, h1, fun G1 H1 vs x1 r1 => ?_⟩
    split at hd
    · cases hd
      cases r1 with
      | cons r1 r2 => cases r2 with | cons r2 r3 => cases r3; exact ⟨_, _, rfl, fin G1 H1 _ x1.g (x0.trans x1) (((en.ext x1).put i r1).put j r2)⟩
    · cases hd
def sPar3 (i j l : Nat) (da : List Sl → Option (List D)) : List Sl → Option Out := fun ρ => (da ρ).bind fun q => match q with
  | [a, b, c] => some (.nx (((ρ.set i (.val a)).set j (.val b)).set l (.val c)))
  | _ => none
theorem ds_par3 {i j l : Nat} {x y z : Str} {a b c : Expr} {da : List Sl → Option (List D)} {px py pz pt : Pos} {kt k2 pt2} (hc : X.calm = true) (hN : X.N.Nodup) (ha : PA X [a, b, c] (tA C da)) (hi : X.N[i]? = some x := by rfl) (hj : X.N[j]? = some y := by rfl) (hl : X.N[l]? = some z := by rfl) (hij : i ≠ j := by decide) (hil : i ≠ l := by decide) (hjl : j ≠ l := by decide)
    (hx : X.env.scope.names.lookup x = some .local := by rfl) (hy : X.env.scope.names.lookup y = some .local := by rfl) (hz : X.env.scope.names.lookup z = some .local := by rfl)
    (hw : swappedStores [.Tuple [.Name x px, .Name y py, .Name z pz] kt pt] (.Tuple [a, b, c] k2 pt2) X.env = pure (some [x, y, z]) := by rfl)
    (hs : swapsWithSole [.Tuple [.Name x px, .Name y py, .Name z pz] kt pt] (.Tuple [a, b, c] k2 pt2) pos.line X.env = pure false := by rfl) :
    PS X (.Assign [.Tuple [.Name x px, .Name y py, .Name z pz] kt pt] (.Tuple [a, b, c] k2 pt2) pos) (tS C (sPar3 i j l da)) :=
  ps_to (ps_par3 hc hN hi hj hl hij hil hjl hx hy hz ha hw hs) fun E σ H ⟨A, G0, H0, G, ρ, o, x0, en, hd, fin⟩ => by
    obtain ⟨q, h1, hd⟩ := obind hd
    refine ⟨A, H0, G, ρ, q, en, x0.s, h1, fun G1 H1 vs x1 r1 => ?_⟩
    split at hd
    · cases hd
      cases r1 with
      | cons r1 r2 => cases r2 with | cons r2 r3 => cases r3 with | cons r3 r4 => cases r4; exact ⟨_, _, _, rfl, fin G1 H1 _ x1.g (x0.trans x1) ((((en.ext x1).put i r1).put j r2).put l r3)⟩
    · cases hd
/-! a list of one's own, lent to what only reads it and keeps nothing of it -/
mutual
def noLst : D → Bool
  | .tup ds => noLsts ds
  | .lst _ => false
  | .num t e => noLst t && noLst e
  | _ => true
def noLsts : List D → Bool
  | [] => true
  | d :: ds => noLst d && noLsts ds
end
mutual
theorem Rp.noLst {C : Addr} {A : List Addr} {G G' : Hp} (s : ∀ b o, (∀ l, o ≠ HO.lst l) → G b = some o → G' b = some o) : ∀ {d : D} {v : V}, Rp C A G v d → DN.noLst d = true → Rp C A G' v d
  | .non, _, h, _ => by cases h; exact .non
  | .bl b, _, h, _ => by cases h; exact .bl b
  | .int i, _, h, _ => by cases h; exact .int i
  | .str x, _, h, _ => by cases h; exact .str x
  | .tup ds, _, h, n => by cases h with | tup e r => exact .tup (s _ _ (fun _ z => by cases z) e) (RpAll.noLst s r (by simpa [DN.noLst] using n))
  | .lst ds, _, h, n => by simp [DN.noLst] at n
  | .num t e, _, h, n => by
    have n' : DN.noLst t = true ∧ DN.noLst e = true := by simpa [DN.noLst] using n
    cases h with | num e1 r1 r2 => exact .num (s _ _ (fun _ z => by cases z) e1) (Rp.noLst s r1 n'.1) (Rp.noLst s r2 n'.2)
  | .ref i, _, h, _ => by cases h with | ref e => exact .ref e
theorem RpAll.noLst {C : Addr} {A : List Addr} {G G' : Hp} (s : ∀ b o, (∀ l, o ≠ HO.lst l) → G b = some o → G' b = some o) : ∀ {ds : List D} {vs : List V}, RpAll C A G vs ds → DN.noLsts ds = true → RpAll C A G' vs ds
  | [], _, h, _ => by cases h; exact .nil
  | d :: ds, _, h, n => by
    have n' : DN.noLst d = true ∧ DN.noLsts ds = true := by simpa [DN.noLsts] using n
    cases h with | cons r1 r2 => exact .cons (Rp.noLst s r1 n'.1) (RpAll.noLst s r2 n'.2)
end
theorem bor_ok {α β : Type} {C : Addr} {rep : List Addr → Hp → β → α → Prop} {ok : α → Bool} {i : Nat} {den : List Sl → Option α} (hrep : ∀ (A : List Addr) (G G' : Hp) (v : β) (d : α), (∀ b o, (∀ l, o ≠ HO.lst l) → G b = some o → G' b = some o) → rep A G v d → ok d = true → rep A G' v d) :
    ∀ σ H Q, tX C rep (fun ρ => (ownD i ρ).bind fun ds => (den (ρ.set i (.val (.lst ds)))).bind fun d => if ok d then some d else none) σ H Q → tX C rep den σ H Q := fun σ H Q ⟨A, H0, G, ρ, d, en, sm, hd, k⟩ => by
  obtain ⟨ds, h1, hd⟩ := obind hd
  obtain ⟨d', h2, hd⟩ := obind hd
  obtain ⟨hn, rfl⟩ := oif hd
  have ho := ownD_ok h1
  obtain ⟨a, vs, p1, p2, p3, p4, p5, p6⟩ := en.own i ds ho
  obtain ⟨en2, s2, s3⟩ := en.freeze sm ho p1 p2 p5
  refine ⟨A, H0, _, _, d', en2, s3, h2, fun G1 H1 v x1 r1 => ?_⟩
  have ga : G1 a = some (.lst vs) := x1.g _ _ upd_same
  refine k (fun b => if b = a then none else G1 b) H1 v ⟨fun b o q => ?_, fun b o q => ?_, x1.h, fun b o q q' => ?_⟩ (hrep A G1 _ v d' (fun b o n q => ?_) r1 hn)
  · have nb : b ≠ a := fun z => by rw [z, p3] at q; cases q
    show (if b = a then none else G1 b) = some o
    rw [if_neg nb]
    exact x1.g _ _ (by rw [upd_ne nb]; exact q)
  · by_cases z : b = a
    · rw [if_pos z] at q; cases q
    · rw [if_neg z] at q; exact x1.s _ _ q
  · show (if b = a then none else G1 b) = none
    by_cases z : b = a
    · rw [if_pos z]
    · rw [if_neg z]; exact x1.f _ _ q (by rw [upd_ne z]; exact q')
  · have nb : b ≠ a := fun z => by rw [z, ga] at q; exact n vs (Option.some.inj q).symm
    show (if b = a then none else G1 b) = some o
    rw [if_neg nb]
    exact q
def dBor (i : Nat) (den : List Sl → Option D) : List Sl → Option D := fun ρ => (ownD i ρ).bind fun ds => (den (ρ.set i (.val (.lst ds)))).bind fun d => if noLst d then some d else none
def bBor (i : Nat) (den : List Sl → Option Bool) : List Sl → Option Bool := fun ρ => (ownD i ρ).bind fun ds => (den (ρ.set i (.val (.lst ds)))).bind fun d => if true then some d else none
theorem dn_bor {i : Nat} {e : Expr} {d : List Sl → Option D} (h : PE X e (tD C d)) : PE X e (tD C (dBor i d)) := pe_to h (bor_ok fun _ _ _ _ _ s r n => Rp.noLst s r n)
theorem dt_bor {i : Nat} {e : Expr} {d : List Sl → Option Bool} (h : PT X e (tB C d)) : PT X e (tB C (bBor i d)) := pt_to h (bor_ok (ok := fun _ => true) fun _ _ _ _ _ _ r _ => r)
end
end DN

set_option maxHeartbeats 2000000
/-! dicts whose keys are tuples at any depth -/
namespace DN
open PySem PySem.Spec PyProof.Rows L2 KG
/-- where a key's tuple stands, and the value there -/
abbrev DXs := List (NestedKey × Addr × V)
def RelX (x : NestedKey × Addr × V) (u : NestedKey × Addr × Value) : Prop := x.1 = u.1 ∧ x.2.1 = u.2.1 ∧ RelV x.2.2 u.2.2
def dicP (P : Program) (w : World) (d : Addr) (xs : DXs) : Heap → Prop := fun h => (d == sysModules) = false ∧ xs.length ≤ 100000 ∧ ∃ us : List (NestedKey × Addr × Value), Paired RelX xs us ∧
  ∃ o es ep, h.get? d = some o ∧ o.ExactDict ∧ o.data = .dict es ep ∧ es.toList = us.map (entryOfKey (nestedKind P w)) ∧ (us.map (·.1)).Nodup
def dicO (P : Program) (w : World) (d : Addr) (xs : DXs) : HO := .ext (dicP P w d xs)
mutual
/-- the value is that key, by the tuples that are tracked -/
inductive NkV (H : Hp) : NestedKey → V → Prop
  | non : NkV H .none .non
  | bl (b : Bool) : NkV H (.num (if b = true then 1 else 0)) (.bl b)
  | int (i : Int) : NkV H (.num i) (.int i)
  | str (x : Str) : NkV H (.text x) (.str x)
  | tup {a : Addr} {vs : List V} {ks : List NestedKey} : H a = some (.tup vs) → NkAll H ks vs → NkV H (.tup ks) (.ref a)
inductive NkAll (H : Hp) : List NestedKey → List V → Prop
  | nil : NkAll H [] []
  | cons {k : NestedKey} {ks : List NestedKey} {v : V} {vs : List V} : NkV H k v → NkAll H ks vs → NkAll H (k :: ks) (v :: vs)
end
mutual
theorem NkV.is {P : Program} {w : World} {H : Hp} {h : Heap} (ok : HOk P w H h) : ∀ {k : NestedKey} {v : V} {u : Value}, NkV H k v → RelV v u → NestedIs h k u
  | .none, _, _, x, r => by cases x; cases r; exact .none
  | .num i, _, _, x, r => by
    cases x with
    | bl b => cases r; exact .bool rfl
    | int i => obtain ⟨t, rfl⟩ := r; exact .int i t
  | .text x, _, _, q, r => by cases q; obtain ⟨t, rfl⟩ := r; exact .text x t
  | .tup ks, _, _, x, r => by
    cases x with
    | tup e q =>
      cases r
      obtain ⟨z, its, rv, o, ho, hc, n, hd⟩ := ok _ _ e
      exact .tup ho hc hd (by simpa using NkAll.is ok q rv)
theorem NkAll.is {P : Program} {w : World} {H : Hp} {h : Heap} (ok : HOk P w H h) : ∀ {ks : List NestedKey} {vs : List V} {us : List Value}, NkAll H ks vs → Vals vs us → NestedAll h ks us
  | [], _, _, x, r => by cases x; cases r; exact .nil
  | k :: ks, _, _, x, r => by
    cases x with
    | cons x1 x2 => cases r with | cons r1 r2 => exact .cons (NkV.is ok x1 r1) (NkAll.is ok x2 r2)
end
/-- the keys stand there -/
def DKs (H : Hp) (xs : DXs) : Prop := ∀ x ∈ xs, NkV H x.1 (.ref x.2.1) ∧ x.1.depth ≤ 8
theorem Paired.mem_r {α β : Type} {F : α → β → Prop} : ∀ {l₁ : List α} {l₂ : List β}, Paired F l₁ l₂ → ∀ b ∈ l₂, ∃ a ∈ l₁, F a b
  | _, _, .nil, b, h => by cases h
  | _, _, .cons r t, b, h => by
    rcases List.mem_cons.mp h with rfl | h
    · exact ⟨_, List.mem_cons_self, r⟩
    · obtain ⟨a, h1, h2⟩ := Paired.mem_r t b h
      exact ⟨a, List.mem_cons_of_mem _ h1, h2⟩
section
variable {P : Program} {w : World} {H : Hp} {h : Heap} {d : Addr} {xs : DXs}
theorem dic_of (ok : HOk P w H h) (e : H d = some (dicO P w d xs)) (ks : DKs H xs) : (d == sysModules) = false ∧ xs.length ≤ 100000 ∧ ∃ us, Paired RelX xs us ∧ h.DictOfH (nestedKind P w) d us := by
  obtain ⟨⟨hs, hl, us, r, o, es, ep, ho, hx, hd, he, hn⟩, _, _⟩ := ok _ _ e
  refine ⟨hs, hl, us, r, o, es, ep, ho, hx, hd, he, fun x hm => ?_, hn⟩
  obtain ⟨y, hy, r1, r2, _⟩ := Paired.mem_r r x hm
  obtain ⟨k1, k2⟩ := ks y hy
  rw [← r1, ← r2]
  exact ⟨k1.is ok rfl, k2⟩
def atX (xs : DXs) (k : NestedKey) : Option V := (xs.find? fun x => decide (x.1 = k)).map (·.2.2)
def putX (k : NestedKey) (v : V) (x : NestedKey × Addr × V) : NestedKey × Addr × V := if x.1 = k then (x.1, x.2.1, v) else x
def storedX (xs : DXs) (k : NestedKey) (a : Addr) (v : V) : DXs := if (atX xs k).isSome then xs.map (putX k v) else xs ++ [(k, a, v)]
theorem at_rel : ∀ {xs : DXs} {us : List (NestedKey × Addr × Value)} (k : NestedKey), Paired RelX xs us → (atX xs k = none ∧ atKey us k = none) ∨ ∃ v a u, atX xs k = some v ∧ atKey us k = some (a, u) ∧ RelV v u
  | _, _, k, .nil => .inl ⟨rfl, rfl⟩
  | x :: xs, u :: us, k, .cons r t => by
    obtain ⟨r1, r2, r3⟩ := r
    unfold atX atKey
    rw [List.find?_cons, List.find?_cons, r1]
    by_cases h : u.1 = k
    · rw [decide_eq_true h]
      exact .inr ⟨x.2.2, u.2.1, u.2.2, rfl, rfl, r3⟩
    · rw [decide_eq_false h]
      exact at_rel k t
theorem stored_rel {us : List (NestedKey × Addr × Value)} {k : NestedKey} {a : Addr} {v : V} {u : Value} (r : Paired RelX xs us) (ru : RelV v u) : Paired RelX (storedX xs k a v) (storedH us k a u) := by
  have mp : ∀ {xs : DXs} {us : List (NestedKey × Addr × Value)}, Paired RelX xs us → Paired RelX (xs.map (putX k v)) (us.map (putAt k u)) := by
    intro xs us r
    induction r with
    | nil => exact .nil
    | cons r1 _ ih =>
      obtain ⟨e1, e2, e3⟩ := r1
      refine .cons ?_ ih
      unfold putX putAt
      rw [e1]
      split
      · exact ⟨rfl, e2, ru⟩
      · exact ⟨e1, e2, e3⟩
  have ap : ∀ {xs : DXs} {us : List (NestedKey × Addr × Value)}, Paired RelX xs us → Paired RelX (xs ++ [(k, a, v)]) (us ++ [(k, a, u)]) := by
    intro xs us r
    induction r with
    | nil => exact .cons ⟨rfl, rfl, ru⟩ .nil
    | cons r1 _ ih => exact .cons r1 ih
  unfold storedX storedH
  rcases at_rel k r with ⟨h1, h2⟩ | ⟨v', a', u', h1, h2, _⟩
  · rw [h1, h2]; exact ap r
  · rw [h1, h2]; exact mp r
theorem stored_len (k : NestedKey) (a : Addr) (v : V) : (storedX xs k a v).length ≤ xs.length + 1 := by
  unfold storedX
  split
  · rw [List.length_map]; omega
  · rw [List.length_append, List.length_singleton]; exact Nat.le_refl _
end
section
variable {X : Cx}
/-- k in d -/
def rInX (P : Program) (w : World) : R2 := fun x y H Q => ∃ a d xs k, x = .ref a ∧ y = .ref d ∧ H d = some (dicO P w d xs) ∧ DKs H xs ∧ NkV H k (.ref a) ∧ k.depth ≤ 8 ∧ Q (.bl (atX xs k).isSome) H
theorem op_inX (hu : X.A.units + 64 < cLine) : OpR X (compareOp .In) (rInX X.prog X.w) := by
  intro pins s σ H x y v u Q I rx ry h
  obtain ⟨a, d, xs, k, rfl, rfl, e, ks, hk, kd, q⟩ := h
  cases rx
  cases ry
  obtain ⟨hs, hl, us, r, hm⟩ := dic_of I.hok e ks
  refine wpAny_in_heap (knd := nestedKind X.prog X.w) (by show X.A.in1.units + 8 < cLine; rw [Around.in1_units]; omega) ⟨hk.is I.hok rfl, kd⟩ hs hm ?_
  refine ⟨.bl _, H, I.tok _, ?_, q⟩
  rcases at_rel k r with ⟨h1, h2⟩ | ⟨v', a', u', h1, h2, _⟩
  · rw [h1, h2]; rfl
  · rw [h1, h2]; rfl
theorem op_notInX (hu : X.A.units + 64 < cLine) : OpR X (compareOp .NotIn) (fun x y H Q => ∃ a d xs k, x = .ref a ∧ y = .ref d ∧ H d = some (dicO X.prog X.w d xs) ∧ DKs H xs ∧ NkV H k (.ref a) ∧ k.depth ≤ 8 ∧ Q (.bl (!(atX xs k).isSome)) H) := by
  intro pins s σ H x y v u Q I rx ry h
  obtain ⟨a, d, xs, k, rfl, rfl, e, ks, hk, kd, q⟩ := h
  cases rx
  cases ry
  obtain ⟨hs, hl, us, r, hm⟩ := dic_of I.hok e ks
  show wpAny _ _ (do return Value.bool (!(← contains (.ref d) (.ref a)))) _ _ s
  refine wpAny_bind (wpAny_contains_heap (knd := nestedKind X.prog X.w) (by show X.A.in1.units + 8 < cLine; rw [Around.in1_units]; omega) ⟨hk.is I.hok rfl, kd⟩ hs hm (wpAny_pure ?_))
  refine ⟨.bl _, H, I.tok _, ?_, q⟩
  rcases at_rel k r with ⟨h1, h2⟩ | ⟨v', a', u', h1, h2, _⟩
  · rw [h1, h2]; rfl
  · rw [h1, h2]; rfl
/-- d[k] -/
def rIxX (P : Program) (w : World) : R2 := fun x y H Q => ∃ a d xs k v, x = .ref d ∧ y = .ref a ∧ H d = some (dicO P w d xs) ∧ DKs H xs ∧ NkV H k (.ref a) ∧ k.depth ≤ 8 ∧ atX xs k = some v ∧ Q v H
theorem ix_X (hu : X.A.units + 64 < cLine) : IxR X (rIxX X.prog X.w) := by
  intro value slice pins s σ H x y v u Q I rx ry h hsl
  obtain ⟨a, d, xs, k, v0, rfl, rfl, e, ks, hk, kd, ha, q⟩ := h
  cases rx
  cases ry
  obtain ⟨hs, hl, us, r, hm⟩ := dic_of I.hok e ks
  rcases at_rel k r with ⟨h1, h2⟩ | ⟨v', a', u', h1, h2, h3⟩
  · rw [ha] at h1; cases h1
  · rw [ha] at h1; cases h1
    exact tail_any hm.typeIs slot_dict_getitem.lookup (wpAny_getItem_heap (knd := nestedKind X.prog X.w) (by show X.A.in1.units + 8 < cLine; rw [Around.in1_units]; omega) ⟨hk.is I.hok rfl, kd⟩ hm h2 ⟨v0, H, I.tok _, h3, q⟩) hsl
/-- d[k] = v -/
def rSetX (P : Program) (w : World) : TSet := fun o i v H Q => ∃ a d xs k, o = .ref d ∧ i = .ref a ∧ H d = some (dicO P w d xs) ∧ DKs H xs ∧ NkV H k (.ref a) ∧ k.depth ≤ 8 ∧ xs.length < 100000 ∧ Q (upd H d (dicO P w d (storedX xs k a v)))
theorem set_X (hu : X.A.units + 64 < cLine) : PSet X (rSetX X.prog X.w) := by
  intro pins s σ H o i v ov iv u Q I ro ri rv h
  obtain ⟨a, d, xs, k, rfl, rfl, e, ks, hk, kd, hlt, q⟩ := h
  cases ro
  cases ri
  obtain ⟨hs, hl, us, r, hm⟩ := dic_of I.hok e ks
  have hlen : us.length = xs.length := (Paired.length r).symm
  refine wpAny_setItem_heap (knd := nestedKind X.prog X.w) (hsz := by rw [hlen, sizeLine_eq]; omega) (by show X.A.in1.units + 8 < cLine; rw [Around.in1_units]; omega) ⟨hk.is I.hok rfl, kd⟩ hm fun h' hm' sb => ?_
  obtain ⟨o', es', ep', ho', hx', hd', he', hi', hn'⟩ := hm'
  refine ⟨_, I.write (x := d) (e := d) (o := dicO X.prog X.w d (storedX xs k a v)) (h' := h') (by rw [e]; trivial) (.inl rfl) (fun b o hb q => (sb.2 b hb).trans q) ⟨_, ho'⟩ ?_, q⟩
  refine ⟨⟨hs, Nat.le_trans (stored_len k a v) (by omega), _, stored_rel r rv, o', es', ep', ho', hx', hd', he', hn'⟩, ⟨_, ho'⟩, fun h1 h2 p st => ?_⟩
  obtain ⟨p1, p2, us2, p3, o2, es2, ep2, p4, p5⟩ := p
  exact ⟨p1, p2, us2, p3, o2, es2, ep2, st _ p4, p5⟩
/-- {} -/
def tDNewX (P : Program) (w : World) : TE := fun _ H Q => ∀ p, H p = none → Q (.ref p) (upd H p (dicO P w p []))
theorem pe_dnewX {pos : Pos} : PE X (.Dict [] [] pos) (tDNewX X.prog X.w) := ⟨fun pins s σ H Q I h =>
  wpAny_Dict_empty ⟨.ref s.heap.objs.size, _, I.laid (a := s.heap.objs.size) (o := dicO X.prog X.w _ []) (t' := s.toks) (fun _ _ q => Heap.get?_push_of_some _ q) (Nat.le_refl _) (by
    refine ⟨⟨beq_eq_false_iff_ne.mpr (Ne.symm (Nat.ne_of_lt I.big)), Nat.zero_le _, [], .nil, _, #[], 0, Heap.get?_push_size _ rfl, ⟨rfl, rfl, rfl⟩, rfl, rfl, List.nodup_nil⟩, ⟨_, Heap.get?_push_size _ rfl⟩, fun h1 h2 p st => ?_⟩
    obtain ⟨p1, p2, us2, p3, o2, es2, ep2, p4, p5⟩ := p
    exact ⟨p1, p2, us2, p3, o2, es2, ep2, st _ p4, p5⟩), rfl, h _ (I.hok.fresh (Nat.le_refl _))⟩⟩
end
end DN

set_option maxHeartbeats 1000000
/-! what code computes that changes objects: cells and their contents -/
namespace DN
open PySem PySem.Spec PyProof.Rows L2 KG
/-- a cell: a list, an object of a class with its fields, a dict -/
inductive Cell where
  | lst (ds : List D) | ins (t : Nat) (fs : List (Str × D)) | dic (kvs : List (D × D)) | ora
/-- cls: the class Number; cl: the classes by their numbers -/
structure CS where
  cls : Addr
  cl : Nat → Addr
  P : Program
  w : World
  K : PySem.W.Frag
mutual
def nk : D → Option NestedKey
  | .non => some .none
  | .bl b => some (.num (if b = true then 1 else 0))
  | .int i => some (.num i)
  | .str x => some (.text x)
  | .tup ds => (nks ds).bind fun ks => some (.tup ks)
  | _ => none
def nks : List D → Option (List NestedKey)
  | [] => some []
  | d :: ds => (nk d).bind fun k => (nks ds).bind fun ks => some (k :: ks)
end
mutual
theorem Rp.nk {C : Addr} {A : List Addr} {G H : Hp} (sm : Same G H) : ∀ {d : D} {v : V} {k : NestedKey}, Rp C A G v d → DN.nk d = some k → NkV H k v
  | .non, _, _, h, e => by cases h; cases e; exact .non
  | .bl b, _, _, h, e => by cases h; cases e; exact .bl b
  | .int i, _, _, h, e => by cases h; cases e; exact .int i
  | .str x, _, _, h, e => by cases h; cases e; exact .str x
  | .tup ds, _, _, h, e => by
    cases h with
    | tup ea r =>
      obtain ⟨ks, h1, e⟩ := obind (show ((nks ds).bind fun ks => some (NestedKey.tup ks)) = _ from e)
      cases e
      exact .tup (sm _ _ ea) (RpAll.nk sm r h1)
  | .lst _, _, _, _, e => by cases e
  | .num _ _, _, _, _, e => by cases e
  | .ref _, _, _, _, e => by cases e
theorem RpAll.nk {C : Addr} {A : List Addr} {G H : Hp} (sm : Same G H) : ∀ {ds : List D} {vs : List V} {ks : List NestedKey}, RpAll C A G vs ds → nks ds = some ks → NkAll H ks vs
  | [], _, _, h, e => by cases h; cases e; exact .nil
  | d :: ds, _, _, h, e => by
    cases h with
    | cons r1 r2 =>
      obtain ⟨k, h1, e⟩ := obind (show ((DN.nk d).bind fun k => (nks ds).bind fun ks => some (k :: ks)) = _ from e)
      obtain ⟨ks, h2, e⟩ := obind e
      cases e
      exact .cons (Rp.nk sm r1 h1) (RpAll.nk sm r2 h2)
end
/-- fields of an object -/
inductive RpFs (C : Addr) (A : List Addr) (G : Hp) : List (Str × V) → List (Str × D) → Prop
  | nil : RpFs C A G [] []
  | cons {f : Str} {v : V} {d : D} {us : List (Str × V)} {fs : List (Str × D)} : Rp C A G v d → RpFs C A G us fs → RpFs C A G ((f, v) :: us) ((f, d) :: fs)
/-- entries of a dict -/
inductive RpKs (C : Addr) (A : List Addr) (G : Hp) : DXs → List (D × D) → Prop
  | nil : RpKs C A G [] []
  | cons {k : NestedKey} {a : Addr} {v : V} {kd vd : D} {xs : DXs} {kvs : List (D × D)} : Rp C A G (.ref a) kd → nk kd = some k → k.depth ≤ 8 → Rp C A G v vd → RpKs C A G xs kvs → RpKs C A G ((k, a, v) :: xs) ((kd, vd) :: kvs)
def CellOk (S : CS) (A : List Addr) (G H : Hp) (a : Addr) : Cell → Prop
  | .lst ds => ∃ vs, H a = some (.lst vs) ∧ RpAll S.cls A G vs ds
  | .ins t fs => ∃ dx us, H a = some (.ins (S.cl t) dx us) ∧ RpFs S.cls A G us fs
  | .dic kvs => ∃ xs, H a = some (dicO S.P S.w a xs) ∧ RpKs S.cls A G xs kvs
  | .ora => ∃ sa ns, StX H a sa ns ∧ SqL S.K G sa (ns.map V.int)
/-- the world as it stands: what stands for good, and the cells -/
structure Wd (S : CS) (A : List Addr) (μ : List Cell) (G H : Hp) : Prop where
  same : Same G H
  len : A.length = μ.length
  nd : A.Nodup
  cell : ∀ (i : Nat) (a : Addr) (c : Cell), A[i]? = some a → μ[i]? = some c → G a = none ∧ CellOk S A G H a c
/-- from one world to a later one: cells may change, what else stands stays -/
structure Ex (A : List Addr) (G H : Hp) (A' : List Addr) (G' H' : Hp) : Prop where
  a : ∃ nw, A' = A ++ nw ∧ ∀ b ∈ nw, H b = none
  g : Same G G'
  h : ∀ b o, b ∉ A → H b = some o → H' b = some o
  f : ∀ b o, H b = some o → G b = none → G' b = none
  l : ∀ b o, H b = some o → ∃ o', H' b = some o'
theorem Ex.refl {A : List Addr} {G H : Hp} : Ex A G H A G H := ⟨⟨[], by simp, fun _ h => by cases h⟩, fun _ _ h => h, fun _ _ _ h => h, fun _ _ _ h => h, fun _ o h => ⟨o, h⟩⟩
theorem Ex.of {A : List Addr} {G H G' H' : Hp} (x : Ext G H G' H') : Ex A G H A G' H' := ⟨⟨[], by simp, fun _ h => by cases h⟩, x.g, fun b o _ h => x.h b o h, x.f, fun b o h => ⟨o, x.h b o h⟩⟩
theorem Ex.trans {A A1 A2 : List Addr} {G H G1 H1 G2 H2 : Hp} (x : Ex A G H A1 G1 H1) (y : Ex A1 G1 H1 A2 G2 H2) : Ex A G H A2 G2 H2 := by
  obtain ⟨n1, e1, f1⟩ := x.a
  obtain ⟨n2, e2, f2⟩ := y.a
  refine ⟨⟨n1 ++ n2, by rw [e2, e1, List.append_assoc], fun b hb => ?_⟩, x.g.trans y.g, fun b o nb h => ?_, fun b o h n => ?_, fun b o h => ?_⟩
  · rcases List.mem_append.mp hb with hb | hb
    · exact f1 b hb
    · cases q : H b with
      | none => rfl
      | some o =>
        obtain ⟨o', h'⟩ := x.l b o q
        rw [f2 b hb] at h'; cases h'
  · refine y.h b o (fun hb => ?_) (x.h b o nb h)
    rw [e1] at hb
    rcases List.mem_append.mp hb with hb | hb
    · exact nb hb
    · rw [f1 b hb] at h; cases h
  · obtain ⟨o', h'⟩ := x.l b o h
    exact y.f b o' h' (x.f b o h n)
  · obtain ⟨o', h'⟩ := x.l b o h
    exact y.l b o' h'
section
variable {C : Addr} {A A' : List Addr} {G G' : Hp}
theorem get_pre {i : Nat} {a : Addr} {nw : List Addr} (e : A' = A ++ nw) (h : A[i]? = some a) : A'[i]? = some a := by
  rw [e, List.getElem?_append_left (List.getElem?_eq_some_iff.mp h).1]; exact h
mutual
theorem Rp.up (p : ∃ nw, A' = A ++ nw) (s : Same G G') : ∀ {d : D} {v : V}, Rp C A G v d → Rp C A' G' v d
  | .non, _, h => by cases h; exact .non
  | .bl b, _, h => by cases h; exact .bl b
  | .int i, _, h => by cases h; exact .int i
  | .str x, _, h => by cases h; exact .str x
  | .tup ds, _, h => by cases h with | tup e r => exact .tup (s _ _ e) (RpAll.up p s r)
  | .lst ds, _, h => by cases h with | lst e r => exact .lst (s _ _ e) (RpAll.up p s r)
  | .num t e, _, h => by cases h with | num e1 r1 r2 => exact .num (s _ _ e1) (Rp.up p s r1) (Rp.up p s r2)
  | .ref i, _, h => by cases h with | ref e => obtain ⟨nw, q⟩ := p; exact .ref (get_pre q e)
theorem RpAll.up (p : ∃ nw, A' = A ++ nw) (s : Same G G') : ∀ {ds : List D} {vs : List V}, RpAll C A G vs ds → RpAll C A' G' vs ds
  | [], _, h => by cases h; exact .nil
  | d :: ds, _, h => by cases h with | cons r1 r2 => exact .cons (Rp.up p s r1) (RpAll.up p s r2)
end
theorem RpFs.up (p : ∃ nw, A' = A ++ nw) (s : Same G G') {fs : List (Str × D)} {us : List (Str × V)} (h : RpFs C A G us fs) : RpFs C A' G' us fs := by
  induction h with
  | nil => exact .nil
  | cons r _ ih => exact .cons (r.up p s) ih
theorem RpKs.up (p : ∃ nw, A' = A ++ nw) (s : Same G G') {kvs : List (D × D)} {xs : DXs} (h : RpKs C A G xs kvs) : RpKs C A' G' xs kvs := by
  induction h with
  | nil => exact .nil
  | cons r1 k d r2 _ ih => exact .cons (r1.up p s) k d (r2.up p s) ih
theorem Ex.pre {H H' : Hp} (x : Ex A G H A' G' H') : ∃ nw, A' = A ++ nw := let ⟨nw, e, _⟩ := x.a; ⟨nw, e⟩
theorem CellOk.up {S : CS} {H H' : Hp} {a : Addr} {c : Cell} (p : ∃ nw, A' = A ++ nw) (s : Same G G') (e : H' a = H a) (h : CellOk S A G H a c) : CellOk S A' G' H' a c := by
  cases c with
  | lst ds => obtain ⟨vs, h1, h2⟩ := h; exact ⟨vs, e.trans h1, h2.up p s⟩
  | ins K fs => obtain ⟨dx, us, h1, h2⟩ := h; exact ⟨dx, us, e.trans h1, h2.up p s⟩
  | dic kvs => obtain ⟨xs, h1, h2⟩ := h; exact ⟨xs, e.trans h1, h2.up p s⟩
  | ora => obtain ⟨sa, ns, h1, h2⟩ := h; exact ⟨sa, ns, h1.but e, Same.seq s h2⟩
theorem CellOk.some {S : CS} {H : Hp} {a : Addr} {c : Cell} (h : CellOk S A G H a c) : ∃ o, H a = some o := by
  cases c with
  | lst ds => obtain ⟨vs, h1, h2⟩ := h; exact ⟨_, h1⟩
  | ins K fs => obtain ⟨dx, us, h1, h2⟩ := h; exact ⟨_, h1⟩
  | dic kvs => obtain ⟨xs, h1, h2⟩ := h; exact ⟨_, h1⟩
  | ora => obtain ⟨sa, ns, ⟨e, r, c, m, h1, _⟩, h2⟩ := h; exact ⟨_, h1⟩
end
section
variable {S : CS} {A : List Addr} {μ : List Cell} {G H : Hp}
theorem Wd.at (W : Wd S A μ G H) {a : Addr} (h : a ∈ A) : ∃ (i : Nat) (c : Cell), A[i]? = some a ∧ μ[i]? = some c := by
  obtain ⟨i, hi, e⟩ := List.mem_iff_getElem.mp h
  exact ⟨i, μ[i]'(by rw [← W.len]; exact hi), by rw [List.getElem?_eq_getElem hi, e], List.getElem?_eq_getElem _⟩
theorem Wd.cel (W : Wd S A μ G H) : Cel A G H := fun a ha => by
  obtain ⟨i, c, h1, h2⟩ := W.at ha
  obtain ⟨n, ok⟩ := W.cell i a c h1 h2
  exact ⟨ok.some, n⟩
theorem Wd.ext (W : Wd S A μ G H) {G' H' : Hp} (x : Ext G H G' H') : Wd S A μ G' H' := by
  refine ⟨x.s, W.len, W.nd, fun i a c h1 h2 => ?_⟩
  obtain ⟨n, ok⟩ := W.cell i a c h1 h2
  obtain ⟨o, e⟩ := ok.some
  exact ⟨x.f _ _ e n, ok.up ⟨[], by simp⟩ x.g ((x.h _ _ e).trans e.symm)⟩
/-- a cell's content is laid anew -/
theorem Wd.put (W : Wd S A μ G H) {i : Nat} {a : Addr} {c : Cell} {o : HO} (hi : A[i]? = some a) (ok : CellOk S A G (upd H a o) a c) (hl : i < μ.length) : Wd S A (μ.set i c) G (upd H a o) ∧ Ex A G H A G (upd H a o) := by
  have ha : a ∈ A := List.mem_of_getElem? hi
  obtain ⟨⟨o', e⟩, n⟩ := W.cel a ha
  refine ⟨⟨fun b u q => by rw [upd_ne (fun z => by rw [z, n] at q; cases q)]; exact W.same _ _ q, by rw [List.length_set]; exact W.len, W.nd, fun j b d h1 h2 => ?_⟩,
    ⟨[], by simp, fun _ h => by cases h⟩, fun _ _ h => h, fun b u nb q => by rw [upd_ne (fun z => by subst z; exact nb ha)]; exact q, fun _ _ _ h => h, fun b u q => ?_⟩
  · rcases set_get h2 with ⟨rfl, rfl, _⟩ | ⟨ne, h2⟩
    · rw [hi] at h1; cases h1; exact ⟨n, ok⟩
    · obtain ⟨n', ok'⟩ := W.cell j b d h1 h2
      have nb : b ≠ a := fun z => by
        subst z
        have hij := (List.getElem?_inj (List.getElem?_eq_some_iff.mp hi).1 W.nd).mp (hi.trans h1.symm)
        exact ne hij.symm
      exact ⟨n', ok'.up ⟨[], by simp⟩ (fun _ _ h => h) (upd_ne nb)⟩
  · by_cases z : b = a
    · exact ⟨o, by rw [z]; exact upd_same⟩
    · exact ⟨u, by rw [upd_ne z]; exact q⟩
end
theorem En.up {S : CS} {A A' : List Addr} {μ' : List Cell} {H0 G H G' H' : Hp} {σ : L2.St} {ρ : List Sl} (e : En S.cls A H0 G H σ ρ) (x : Ex A G H A' G' H') (W : Wd S A' μ' G' H') : En S.cls A' H0 G' H' σ ρ := by
  refine ⟨e.len, fun i d h => ?_, fun i ds h => ?_, e.sep, W.cel⟩
  · obtain ⟨v, h1, h2⟩ := e.val i d h
    exact ⟨v, h1, h2.up x.pre x.g⟩
  · obtain ⟨a, vs, h1, h2, h3, h4, h5, h6⟩ := e.own i ds h
    refine ⟨a, vs, h1, x.h _ _ h6 h2, x.f _ _ h2 h3, h4, h5.up x.pre x.g, fun hm => ?_⟩
    obtain ⟨nw, e1, f1⟩ := x.a
    rw [e1] at hm
    rcases List.mem_append.mp hm with hm | hm
    · exact h6 hm
    · rw [f1 a hm] at h2; cases h2
/-! ### readings -/
abbrev SD (α : Type) := List Sl → List Cell → Option (α × List Cell)
def tXs {α β : Type} (S : CS) (rep : List Addr → Hp → β → α → Prop) (den : SD α) : L2.St → Hp → (β → Hp → Prop) → Prop := fun σ H Q =>
  ∃ A μ H0 G ρ d μ', En S.cls A H0 G H σ ρ ∧ Wd S A μ G H ∧ den ρ μ = some (d, μ') ∧ ∀ A' G' H' v, Ex A G H A' G' H' → Wd S A' μ' G' H' → rep A' G' v d → Q v H'
abbrev zD (S : CS) (den : SD D) : TE := tXs S (Rp S.cls) den
abbrev zA (S : CS) (den : SD (List D)) : TA := tXs S (RpAll S.cls) den
abbrev zB (S : CS) (den : SD Bool) : TT := tXs S eqR den
abbrev zP (S : CS) (den : SD (Option Int)) : TO := tXs S eqR den
def lf {α : Type} (den : List Sl → Option α) : SD α := fun ρ μ => (den ρ).bind fun d => some (d, μ)
theorem z_lift {α β : Type} {S : CS} {rep : List Addr → Hp → β → α → Prop} {den : List Sl → Option α} : ∀ σ H Q, tXs S rep (lf den) σ H Q → tX S.cls rep den σ H Q := fun σ H Q ⟨A, μ, H0, G, ρ, d, μ', en, W, hd, k⟩ => by
  obtain ⟨d', h1, hd⟩ := obind hd
  cases hd
  exact ⟨A, H0, G, ρ, _, en, W.same, h1, fun G' H' v x r => k A G' H' v (.of x) (W.ext x) r⟩
section
variable {X : Cx} {S : CS} {pos : Pos}
theorem zl {e : Expr} {d : List Sl → Option D} (h : PE X e (tD S.cls d)) : PE X e (zD S (lf d)) := pe_to h z_lift
theorem zlt {e : Expr} {d : List Sl → Option Bool} (h : PT X e (tB S.cls d)) : PT X e (zB S (lf d)) := pt_to h z_lift
theorem zla {es : List Expr} {d : List Sl → Option (List D)} (h : PA X es (tA S.cls d)) : PA X es (zA S (lf d)) := pa_to h z_lift
theorem zlo {e : Option Expr} {d : List Sl → Option (Option Int)} (h : PO X e (tP S.cls d)) : PO X e (zP S (lf d)) := po_to h z_lift
theorem zlw {e : Expr} {d : List Sl → Option Bool} (h : PW X e (tB S.cls d)) : PW X e (zB S (lf d)) := pw_to h z_lift
/-! two and one -/
def z2 (f : D → D → Option D) (da db : SD D) : SD D := fun ρ μ => (da ρ μ).bind fun p => (db ρ p.2).bind fun q => (f p.1 q.1).bind fun d => some (d, q.2)
def z1 (f : D → Option D) (da : SD D) : SD D := fun ρ μ => (da ρ μ).bind fun p => (f p.1).bind fun d => some (d, p.2)
theorem iz2 {r : R2} {f : D → D → Option D} (h : Is2 S.cls r f) (da db : SD D) : ∀ σ H Q, zD S (z2 f da db) σ H Q → tOp r (zD S da) (zD S db) σ H Q := fun σ H Q ⟨A, μ, H0, G, ρ, d, μ', en, W, hd, k⟩ => by
  obtain ⟨⟨a, μ1⟩, ha, hd⟩ := obind hd
  obtain ⟨⟨b, μ2⟩, hb, hd⟩ := obind hd
  obtain ⟨c, hc, hd⟩ := obind hd
  cases hd
  exact ⟨A, μ, H0, G, ρ, a, μ1, en, W, ha, fun A1 G1 H1 x x1 W1 r1 => ⟨A1, μ1, H0, G1, ρ, b, _, en.up x1 W1, W1, hb, fun A2 G2 H2 y x2 W2 r2 =>
    h A2 G2 H2 x y a b _ Q W2.same (r1.up x2.pre x2.g) r2 hc fun G' H' v x3 r3 => k A2 G' H' v ((x1.trans x2).trans (.of x3)) (W2.ext x3) r3⟩⟩
theorem iz1 {r : V → Hp → VK → Prop} {f : D → Option D} (h : Is1 S.cls r f) (da : SD D) : ∀ σ H Q, zD S (z1 f da) σ H Q → tUn r (zD S da) σ H Q := fun σ H Q ⟨A, μ, H0, G, ρ, d, μ', en, W, hd, k⟩ => by
  obtain ⟨⟨a, μ1⟩, ha, hd⟩ := obind hd
  obtain ⟨c, hc, hd⟩ := obind hd
  cases hd
  exact ⟨A, μ, H0, G, ρ, a, μ1, en, W, ha, fun A1 G1 H1 x x1 W1 r1 => h A1 G1 H1 x a _ Q W1.same r1 hc fun G' H' v x3 r3 => k A1 G' H' v (x1.trans (.of x3)) (W1.ext x3) r3⟩
theorem zn_op {op : Operator} {r : R2} {f : D → D → Option D} {a b : Expr} {da db : SD D} (h : Is2 S.cls r f) (ho : OpR X (binaryOp op) r) (ha : PE X a (zD S da)) (hb : PE X b (zD S db)) : PE X (.BinOp a op b pos) (zD S (z2 f da db)) := pe_to (pe_op ho ha hb) (iz2 h da db)
theorem zn_un {op : UnaryOp} {r : V → Hp → VK → Prop} {f : D → Option D} {a : Expr} {da : SD D} (h : Is1 S.cls r f) (ho : UnR X (unaryOp op) r) (ha : PE X a (zD S da)) : PE X (.UnaryOp op a pos) (zD S (z1 f da)) := pe_to (pe_un ho ha) (iz1 h da)
theorem zn_cmp {op : CmpOp} {r : R2} {f : D → D → Option D} {a b : Expr} {da db : SD D} (h : Is2 S.cls r f) (ho : OpR X (compareOp op) r) (ha : PE X a (zD S da)) (hb : PE X b (zD S db)) (hm : behindInMarks op b = false) : PE X (.Compare a [op] [b] pos) (zD S (z2 f da db)) := pe_to (pe_cmpR ho ha hb hm) (iz2 h da db)
theorem zn_ix {a b : Expr} {da db : SD D} (ha : PE X a (zD S da)) (hb : PE X b (zD S db)) (hs : PlainIx b) : PE X (.Subscript a b pos) (zD S (z2 fIx da db)) := pe_to (pe_ix ix_seq ha hb hs) (iz2 is_ix da db)
section
variable {a b : Expr} {da db : SD D}
theorem zn_add (ha : PE X a (zD S da)) (hb : PE X b (zD S db)) : PE X (.BinOp a .Add b pos) (zD S (z2 fAdd da db)) := zn_op is_add op_addA ha hb
theorem zn_sub (ha : PE X a (zD S da)) (hb : PE X b (zD S db)) : PE X (.BinOp a .Sub b pos) (zD S (z2 fSub da db)) := zn_op is_i20 op_sub ha hb
theorem zn_mul (ha : PE X a (zD S da)) (hb : PE X b (zD S db)) : PE X (.BinOp a .Mult b pos) (zD S (z2 fMul da db)) := zn_op is_mul op_mulA ha hb
theorem zn_div (ha : PE X a (zD S da)) (hb : PE X b (zD S db)) : PE X (.BinOp a .FloorDiv b pos) (zD S (z2 fDiv da db)) := zn_op (is_i2 cDiv_ok) op_fdivZ ha hb
theorem zn_mod (ha : PE X a (zD S da)) (hb : PE X b (zD S db)) : PE X (.BinOp a .Mod b pos) (zD S (z2 fMod da db)) := zn_op (is_i2 fun _ _ h => of_decide_eq_true h) op_modN ha hb
theorem zn_neg (ha : PE X a (zD S da)) : PE X (.UnaryOp .USub a pos) (zD S (z1 (fI1 fun i => -i) da)) := zn_un is_u un_neg ha
theorem zn_eq (hu : X.A.units + 64 < cLine) (ha : PE X a (zD S da)) (hb : PE X b (zD S db)) : PE X (.Compare a [.Eq] [b] pos) (zD S (z2 fEq da db)) := zn_cmp (r := rEqA X.K) is_eq (op_eq.or (op_eqD hu)) ha hb (nomark _)
theorem zn_ne (hu : X.A.units + 64 < cLine) (ha : PE X a (zD S da)) (hb : PE X b (zD S db)) : PE X (.Compare a [.NotEq] [b] pos) (zD S (z2 fNe da db)) := zn_cmp (r := rNeA X.K) is_ne (op_ne.or (op_neD hu)) ha hb (nomark _)
theorem zn_lt (ha : PE X a (zD S da)) (hb : PE X b (zD S db)) : PE X (.Compare a [.Lt] [b] pos) (zD S (z2 (fB20 fun i j => decide (i < j)) da db)) := zn_cmp is_b20 op_lt ha hb (nomark _)
theorem zn_le (ha : PE X a (zD S da)) (hb : PE X b (zD S db)) : PE X (.Compare a [.LtE] [b] pos) (zD S (z2 (fB20 fun i j => decide (i ≤ j)) da db)) := zn_cmp is_b20 op_le ha hb (nomark _)
theorem zn_gt (ha : PE X a (zD S da)) (hb : PE X b (zD S db)) : PE X (.Compare a [.Gt] [b] pos) (zD S (z2 (fB20 fun i j => decide (j < i)) da db)) := zn_cmp is_b20 op_gt ha hb (nomark _)
theorem zn_ge (ha : PE X a (zD S da)) (hb : PE X b (zD S db)) : PE X (.Compare a [.GtE] [b] pos) (zD S (z2 (fB20 fun i j => decide (j ≤ i)) da db)) := zn_cmp is_b20 op_ge ha hb (nomark _)
end
/-! arguments, displays -/
def y0 : SD (List D) := fun _ μ => some ([], μ)
def yc (d : SD D) (ds : SD (List D)) : SD (List D) := fun ρ μ => (d ρ μ).bind fun p => (ds ρ p.2).bind fun q => some (p.1 :: q.1, q.2)
theorem za_nil : PA X [] (zA S y0) := pa_to pa_nil fun σ H Q ⟨A, μ, H0, G, ρ, d, μ', en, W, hd, k⟩ => by cases hd; exact k A G H [] .refl W .nil
theorem za_cons {e : Expr} {es : List Expr} {d : SD D} {ds : SD (List D)} (ha : PE X e (zD S d)) (hr : PA X es (zA S ds)) (hs : starEach (e :: es) X.env = (false, eval e X.env) :: starEach es X.env := by rfl) : PA X (e :: es) (zA S (yc d ds)) :=
  pa_to (pa_cons ha hr hs) fun σ H Q ⟨A, μ, H0, G, ρ, z, μ', en, W, hd, k⟩ => by
    obtain ⟨⟨a, μ1⟩, h1, hd⟩ := obind hd
    obtain ⟨⟨as, μ2⟩, h2, hd⟩ := obind hd
    cases hd
    exact ⟨A, μ, H0, G, ρ, a, μ1, en, W, h1, fun A1 G1 H1 x x1 W1 r1 => ⟨A1, μ1, H0, G1, ρ, as, _, en.up x1 W1, W1, h2, fun A2 G2 H2 xs x2 W2 r2 => k A2 G2 H2 _ (x1.trans x2) W2 (.cons (r1.up x2.pre x2.g) r2)⟩⟩
def zTup (das : SD (List D)) : SD D := fun ρ μ => (das ρ μ).bind fun p => if decide (p.1.length ≤ szB) then some (.tup p.1, p.2) else none
def zLst (das : SD (List D)) : SD D := fun ρ μ => (das ρ μ).bind fun p => if decide (p.1.length ≤ szB) then some (.lst p.1, p.2) else none
theorem zn_tup {es : List Expr} {x1} {das : SD (List D)} (h : PA X es (zA S das)) : PE X (.Tuple es x1 pos) (zD S (zTup das)) :=
  pe_to (pe_tup h) fun σ H Q ⟨A, μ, H0, G, ρ, d, μ', e, W, hd, k⟩ => by
    obtain ⟨⟨ds, μ1⟩, h1, hd⟩ := obind hd
    obtain ⟨hz, hd⟩ := oif hd
    cases hd
    refine ⟨A, μ, H0, G, ρ, ds, _, e, W, h1, fun A1 G1 H1 xs x1 W1 r1 => ⟨by rw [r1.len]; exact sz_ok hz, fun p np => ?_⟩⟩
    have x2 := Ext.new W1.same np (.tup xs)
    exact k A1 _ _ _ (x1.trans (.of x2)) (W1.ext x2) (.tup upd_same (r1.mono (same_new (none_of W1.same np) _)))
theorem zn_lst {es : List Expr} {das : SD (List D)} (h : PA X es (zA S das)) : PE X (.List es pos) (zD S (zLst das)) :=
  pe_to (pe_lst h) fun σ H Q ⟨A, μ, H0, G, ρ, d, μ', e, W, hd, k⟩ => by
    obtain ⟨⟨ds, μ1⟩, h1, hd⟩ := obind hd
    obtain ⟨hz, hd⟩ := oif hd
    cases hd
    refine ⟨A, μ, H0, G, ρ, ds, _, e, W, h1, fun A1 G1 H1 xs x1 W1 r1 => ⟨by rw [r1.len]; exact sz_ok hz, fun p np => ?_⟩⟩
    have x2 := Ext.new W1.same np (.lst xs)
    exact k A1 _ _ _ (x1.trans (.of x2)) (W1.ext x2) (.lst upd_same (r1.mono (same_new (none_of W1.same np) _)))
/-! tests -/
def zAsB (d : SD D) : SD Bool := fun ρ μ => (d ρ μ).bind fun p => (asB p.1).bind fun b => some (b, p.2)
theorem ztest_of {t : TE} {den : SD D} (h : ∀ σ H Q, zD S den σ H Q → t σ H Q) : ∀ σ H Q, zB S (zAsB den) σ H Q → tTest t σ H Q := fun σ H Q ⟨A, μ, H0, G, ρ, b, μ', en, W, hd, k⟩ => by
  obtain ⟨⟨d, μ1⟩, h1, hd⟩ := obind hd
  obtain ⟨b', hb, hd⟩ := obind hd
  cases hd
  have := asB_ok hb
  obtain rfl : d = .bl b := this
  exact h σ H _ ⟨A, μ, H0, G, ρ, .bl b, _, en, W, h1, fun A1 G1 H1 v x1 W1 r1 => by cases r1; exact ⟨b, rfl, k A1 G1 H1 b x1 W1 rfl⟩⟩
section
variable {a b : Expr} {da db : SD D}
theorem zt_cmp {op : CmpOp} {r : R2} {f : D → D → Option D} (h : Is2 S.cls r f) (ho : OpR X (compareOp op) r) (ha : PE X a (zD S da)) (hb : PE X b (zD S db)) (hm : behindInMarks op b = false) : PT X (.Compare a [op] [b] pos) (zB S (zAsB (z2 f da db))) := pt_to (pt_cmpR ho ha hb hm) (ztest_of (iz2 h da db))
theorem zt_eq (hu : X.A.units + 64 < cLine) (ha : PE X a (zD S da)) (hb : PE X b (zD S db)) : PT X (.Compare a [.Eq] [b] pos) (zB S (zAsB (z2 fEq da db))) := zt_cmp (r := rEqA X.K) is_eq (op_eq.or (op_eqD hu)) ha hb (nomark _)
theorem zt_ne (hu : X.A.units + 64 < cLine) (ha : PE X a (zD S da)) (hb : PE X b (zD S db)) : PT X (.Compare a [.NotEq] [b] pos) (zB S (zAsB (z2 fNe da db))) := zt_cmp (r := rNeA X.K) is_ne (op_ne.or (op_neD hu)) ha hb (nomark _)
theorem zt_lt (ha : PE X a (zD S da)) (hb : PE X b (zD S db)) : PT X (.Compare a [.Lt] [b] pos) (zB S (zAsB (z2 (fB20 fun i j => decide (i < j)) da db))) := zt_cmp is_b20 op_lt ha hb (nomark _)
theorem zt_le (ha : PE X a (zD S da)) (hb : PE X b (zD S db)) : PT X (.Compare a [.LtE] [b] pos) (zB S (zAsB (z2 (fB20 fun i j => decide (i ≤ j)) da db))) := zt_cmp is_b20 op_le ha hb (nomark _)
theorem zt_gt (ha : PE X a (zD S da)) (hb : PE X b (zD S db)) : PT X (.Compare a [.Gt] [b] pos) (zB S (zAsB (z2 (fB20 fun i j => decide (j < i)) da db))) := zt_cmp is_b20 op_gt ha hb (nomark _)
theorem zt_ge (ha : PE X a (zD S da)) (hb : PE X b (zD S db)) : PT X (.Compare a [.GtE] [b] pos) (zB S (zAsB (z2 (fB20 fun i j => decide (j ≤ i)) da db))) := zt_cmp is_b20 op_ge ha hb (nomark _)
theorem zis_isN : Is2 S.cls (fun x y H Q => y = .non ∧ Q (.bl (decide (x = .non))) H) fIsN := fun A G H x y a b d Q sm ra rb hd k => by
  obtain ⟨h1, h2⟩ := isn_ok ra rb hd
  subst h2
  exact ⟨h1, k G H _ (.refl sm) (.bl _)⟩
theorem zis_notN : Is2 S.cls (fun x y H Q => y = .non ∧ Q (.bl (!decide (x = .non))) H) fNotN := fun A G H x y a b d Q sm ra rb hd k => by
  obtain ⟨c, h0, hd⟩ := obind hd
  obtain ⟨h1, h2⟩ := isn_ok ra rb h0
  subst h2
  cases hd
  exact ⟨h1, k G H _ (.refl sm) (.bl _)⟩
theorem zt_isN {j pos'} (ha : PE X a (zD S da)) : PT X (.Compare a [.Is] [.Constant .none j pos'] pos) (zB S (zAsB (z2 fIsN da (lf (dK .non))))) := zt_cmp zis_isN op_isN ha (zl dn_non) (nomark _)
theorem zt_notN {j pos'} (ha : PE X a (zD S da)) : PT X (.Compare a [.IsNot] [.Constant .none j pos'] pos) (zB S (zAsB (z2 fNotN da (lf (dK .non))))) := zt_cmp zis_notN op_notN ha (zl dn_non) (nomark _)
end
def zTru (d : SD D) : SD Bool := fun ρ μ => (d ρ μ).bind fun p => (fTru p.1).bind fun b => some (b, p.2)
theorem zt_truth {a : Expr} {da : SD D} (ha : PE X a (zD S da)) (he : ∀ whole, isTrue a X.env whole = (do let v ← whole; standAt a.pos; holding [v] (truthy v)) := by intro _; rfl) : PT X a (zB S (zTru da)) :=
  pt_to (pt_truth ha he) fun σ H Q ⟨A, μ, H0, G, ρ, b, μ', en, W, hd, k⟩ => by
    obtain ⟨⟨d, μ1⟩, h1, hd⟩ := obind hd
    obtain ⟨b', hb, hd⟩ := obind hd
    cases hd
    exact ⟨A, μ, H0, G, ρ, d, _, en, W, h1, fun A1 G1 H1 v x1 W1 r1 => ⟨b, tru_rp W1.same r1 hb, k A1 G1 H1 b x1 W1 rfl⟩⟩
def zNot (d : SD Bool) : SD Bool := fun ρ μ => (d ρ μ).bind fun p => some (!p.1, p.2)
def zAnd (d e : SD Bool) : SD Bool := fun ρ μ => (d ρ μ).bind fun p => if p.1 then e ρ p.2 else some (false, p.2)
def zOr (d e : SD Bool) : SD Bool := fun ρ μ => (d ρ μ).bind fun p => if p.1 then some (true, p.2) else e ρ p.2
section
variable {a b : Expr} {rest : List Expr} {da db : SD Bool}
theorem zt_not (ha : PT X a (zB S da)) : PT X (.UnaryOp .Not a pos) (zB S (zNot da)) := pt_to (pt_not ha) fun σ H Q ⟨A, μ, H0, G, ρ, b, μ', en, W, hd, k⟩ => by
  obtain ⟨⟨d, μ1⟩, h1, hd⟩ := obind hd
  cases hd
  exact ⟨A, μ, H0, G, ρ, d, _, en, W, h1, fun A1 G1 H1 v x1 W1 r1 => k A1 G1 H1 _ x1 W1 (by show (!v) = !d; rw [show v = d from r1])⟩
theorem zw_and1 (ha : PT X a (zB S da)) : PW X (.BoolOp .And [a] pos) (zB S da) := pw_and1 ha
theorem zw_or1 (ha : PT X a (zB S da)) : PW X (.BoolOp .Or [a] pos) (zB S da) := pw_or1 ha
theorem zw_and (ha : PT X a (zB S da)) (hb : PW X (.BoolOp .And (b :: rest) pos) (zB S db)) : PW X (.BoolOp .And (a :: b :: rest) pos) (zB S (zAnd da db)) := pw_to (pw_and ha hb) fun σ H Q ⟨A, μ, H0, G, ρ, c, μ', en, W, hd, k⟩ => by
  obtain ⟨⟨d, μ1⟩, h1, hd⟩ := obind hd
  refine ⟨A, μ, H0, G, ρ, d, μ1, en, W, h1, fun A1 G1 H1 v x1 W1 r1 => ?_⟩
  obtain rfl : v = d := r1
  cases v with
  | true => exact ⟨A1, μ1, H0, G1, ρ, c, μ', en.up x1 W1, W1, by simpa using hd, fun A2 G2 H2 v x2 W2 r2 => k A2 G2 H2 v (x1.trans x2) W2 r2⟩
  | false =>
    obtain ⟨rfl, rfl⟩ : c = false ∧ μ' = μ1 := by simpa [eq_comm] using hd
    exact k A1 G1 H1 false x1 W1 rfl
theorem zw_or (ha : PT X a (zB S da)) (hb : PW X (.BoolOp .Or (b :: rest) pos) (zB S db)) : PW X (.BoolOp .Or (a :: b :: rest) pos) (zB S (zOr da db)) := pw_to (pw_or ha hb) fun σ H Q ⟨A, μ, H0, G, ρ, c, μ', en, W, hd, k⟩ => by
  obtain ⟨⟨d, μ1⟩, h1, hd⟩ := obind hd
  refine ⟨A, μ, H0, G, ρ, d, μ1, en, W, h1, fun A1 G1 H1 v x1 W1 r1 => ?_⟩
  obtain rfl : v = d := r1
  cases v with
  | false => exact ⟨A1, μ1, H0, G1, ρ, c, μ', en.up x1 W1, W1, by simpa using hd, fun A2 G2 H2 v x2 W2 r2 => k A2 G2 H2 v (x1.trans x2) W2 r2⟩
  | true =>
    obtain ⟨rfl, rfl⟩ : c = true ∧ μ' = μ1 := by simpa [eq_comm] using hd
    exact k A1 G1 H1 true x1 W1 rfl
end
def zIfE (c : SD Bool) (d e : SD D) : SD D := fun ρ μ => (c ρ μ).bind fun p => if p.1 then d ρ p.2 else e ρ p.2
theorem zn_ifExp {c a b : Expr} {dc : SD Bool} {da db : SD D} (hc : PT X c (zB S dc)) (ha : PE X a (zD S da)) (hb : PE X b (zD S db)) : PE X (.IfExp c a b pos) (zD S (zIfE dc da db)) := pe_to (pe_ifExp hc ha hb) fun σ H Q ⟨A, μ, H0, G, ρ, z, μ', en, W, hd, k⟩ => by
  obtain ⟨⟨d, μ1⟩, h1, hd⟩ := obind hd
  refine ⟨A, μ, H0, G, ρ, d, μ1, en, W, h1, fun A1 G1 H1 v x1 W1 r1 => ?_⟩
  obtain rfl : v = d := r1
  cases v with
  | true => exact ⟨A1, μ1, H0, G1, ρ, z, μ', en.up x1 W1, W1, by simpa using hd, fun A2 G2 H2 v x2 W2 r2 => k A2 G2 H2 v (x1.trans x2) W2 r2⟩
  | false => exact ⟨A1, μ1, H0, G1, ρ, z, μ', en.up x1 W1, W1, by simpa using hd, fun A2 G2 H2 v x2 W2 r2 => k A2 G2 H2 v (x1.trans x2) W2 r2⟩
/-! ### calls -/
/-- the promise of a def that computes f and may change cells -/
def SpS (S : CS) (f : List D → List Cell → Option (D × List Cell)) : Sp := fun vs H Q _ => ∃ A μ G ds d μ', Wd S A μ G H ∧ RpAll S.cls A G vs ds ∧ f ds μ = some (d, μ') ∧ ∀ A' G' H' v, Ex A G H A' G' H' → Wd S A' μ' G' H' → Rp S.cls A' G' v d → Q v H'
abbrev FnS := List D → List Cell → Option (D × List Cell)
def zCall (f : FnS) (das : SD (List D)) : SD D := fun ρ μ => (das ρ μ).bind fun p => f p.1 p.2
def zCallP (f : List D → Option D) (das : SD (List D)) : SD D := fun ρ μ => (das ρ μ).bind fun p => (f p.1).bind fun d => some (d, p.2)
section
variable {CX : CXT} {k : Nat} {f : Addr} {fd : FuncData} {ps : List Str} {E : XK} {x : Str} {p : Pos} {e : Expr} {es : List Expr} {das : SD (List D)}
theorem zn_call {g : FnS} (F : FnOk X.prog X.w X.K X.mg X.base CX k f fd ps (SpS S g)) (hr : Room k X.A) (hg : Gl X x) (hm : X.mg x = some (.ref f)) (hk : PySem.W.keepIn X.K (.ref f) = true) (hb : Binds X.K fd ps []) (hx : Passes CX X E)
    (ha : PA X (e :: es) (zA S das)) (hdb : (x == ("__debug__" : Str)) = false := by decide) (he : starEach (e :: es) X.env = (false, eval e X.env) :: starEach es X.env := by rfl) (hpl : (backTo pos (starEach es X.env)).any (·.1) = false := by rfl) :
    PE X (.Call (.Name x p) (e :: es) [] pos) (zD S (zCall g das)) :=
  pe_to (pe_call F hr hg hm hk hb .nil hx ha hdb he hpl) fun σ H Q ⟨A, μ, H0, G, ρ, d, μ', en, W, hd, k⟩ => by
    obtain ⟨⟨ds, μ1⟩, h1, hd⟩ := obind hd
    exact ⟨A, μ, H0, G, ρ, ds, μ1, en, W, h1, fun A1 G1 H1 vs x1 W1 r1 => ⟨A1, μ1, G1, ds, d, μ', W1, by rw [List.append_nil]; exact r1, hd, fun A' G' H' v x2 W2 r2 => k A' G' H' v (x1.trans x2) W2 r2⟩⟩
theorem zn_callP {g : List D → Option D} (F : FnOk X.prog X.w X.K X.mg X.base CX k f fd ps (SpD S.cls g)) (hr : Room k X.A) (hg : Gl X x) (hm : X.mg x = some (.ref f)) (hk : PySem.W.keepIn X.K (.ref f) = true) (hb : Binds X.K fd ps []) (hx : Passes CX X E)
    (ha : PA X (e :: es) (zA S das)) (hdb : (x == ("__debug__" : Str)) = false := by decide) (he : starEach (e :: es) X.env = (false, eval e X.env) :: starEach es X.env := by rfl) (hpl : (backTo pos (starEach es X.env)).any (·.1) = false := by rfl) :
    PE X (.Call (.Name x p) (e :: es) [] pos) (zD S (zCallP g das)) :=
  pe_to (pe_call F hr hg hm hk hb .nil hx ha hdb he hpl) fun σ H Q ⟨A, μ, H0, G, ρ, d, μ', en, W, hd, k⟩ => by
    obtain ⟨⟨ds, μ1⟩, h1, hd⟩ := obind hd
    obtain ⟨d', h2, hd⟩ := obind hd
    cases hd
    exact ⟨A, μ, H0, G, ρ, ds, _, en, W, h1, fun A1 G1 H1 vs x1 W1 r1 => ⟨A1, G1, ds, d, W1.cel, W1.same, by rw [List.append_nil]; exact r1, h2, fun G' H' v x2 r2 => k A1 G' H' v (x1.trans (.of x2)) (W1.ext x2) r2⟩⟩
theorem izN {r : List V → Hp → VK → Prop} {f : List D → Option D} (h : IsN S.cls r f) (das : SD (List D)) : ∀ σ H Q, zD S (zCallP f das) σ H Q → tCB r (zA S das) σ H Q := fun σ H Q ⟨A, μ, H0, G, ρ, d, μ', en, W, hd, k⟩ => by
  obtain ⟨⟨ds, μ1⟩, h1, hd⟩ := obind hd
  obtain ⟨d', h2, hd⟩ := obind hd
  cases hd
  exact ⟨A, μ, H0, G, ρ, ds, _, en, W, h1, fun A1 G1 H1 vs x1 W1 r1 => h A1 G1 H1 vs ds d Q W1.same r1 h2 fun G' H' v x2 r2 => k A1 G' H' v (x1.trans (.of x2)) (W1.ext x2) r2⟩
theorem zn_callB {id : String} {r : List V → Hp → VK → Prop} {f : List D → Option D} (h : IsN S.cls r f) (hc : CallR X (.builtin id) r) (hg : Gl X x) (hm : X.mg x = none) (hv : bootBuiltins x = some (.builtin id)) (ha : PA X (e :: es) (zA S das)) (hn : x ≠ "__name__" := by decide) (hdb : (x == ("__debug__" : Str)) = false := by decide)
    (he : starEach (e :: es) X.env = (false, eval e X.env) :: starEach es X.env := by rfl) (hpl : (backTo pos (starEach es X.env)).any (·.1) = false := by rfl) : PE X (.Call (.Name x p) (e :: es) [] pos) (zD S (zCallP f das)) := pe_to (pe_callB hc hg hm hv ha hn hdb he hpl) (izN h das)
theorem zn_callTy {T : String} {r : List V → Hp → VK → Prop} {f : List D → Option D} (h : IsN S.cls r f) (hc : CallR X (.type T) r) (hg : Gl X x) (hm : X.mg x = none) (hv : bootBuiltins x = some (.type T)) (ha : PA X (e :: es) (zA S das)) (hn : x ≠ "__name__" := by decide) (hdb : (x == ("__debug__" : Str)) = false := by decide)
    (he : starEach (e :: es) X.env = (false, eval e X.env) :: starEach es X.env := by rfl) (hpl : (backTo pos (starEach es X.env)).any (·.1) = false := by rfl) : PE X (.Call (.Name x p) (e :: es) [] pos) (zD S (zCallP f das)) := pe_to (pe_callTy hc hg hm hv ha hn hdb he hpl) (izN h das)
end
end
end DN

set_option maxHeartbeats 1000000
/-! cells: fields, methods, new objects, dicts -/
namespace DN
open PySem PySem.Spec PyProof.Rows L2 KG
/-! ### fields -/
def putD (f : Str) (d : D) : List (Str × D) → List (Str × D)
  | [] => [(f, d)]
  | (g, x) :: r => if g = f then (g, d) :: r else (g, x) :: putD f d r
section
variable {C : Addr} {A : List Addr} {G : Hp}
theorem RpFs.look {us : List (Str × V)} {fs : List (Str × D)} (h : RpFs C A G us fs) (f : Str) : (us.lookup f = none ∧ fs.lookup f = none) ∨ ∃ v d, us.lookup f = some v ∧ fs.lookup f = some d ∧ Rp C A G v d := by
  induction h with
  | nil => exact .inl ⟨rfl, rfl⟩
  | cons r _ ih =>
    rename_i g v d us fs _
    rw [List.lookup_cons, List.lookup_cons]
    cases e : f == g with
    | true => exact .inr ⟨v, d, rfl, rfl, r⟩
    | false => exact ih
theorem RpFs.putF {us : List (Str × V)} {fs : List (Str × D)} {f : Str} {v : V} {d : D} (h : RpFs C A G us fs) (r : Rp C A G v d) : RpFs C A G (L2.putF f v us) (putD f d fs) := by
  induction h with
  | nil => exact .cons r .nil
  | cons r1 r2 ih =>
    unfold L2.putF putD
    split
    · exact .cons r r2
    · exact .cons r1 ih
theorem RpFs.len {us : List (Str × V)} {fs : List (Str × D)} (h : RpFs C A G us fs) : us.length = fs.length := by
  induction h with
  | nil => rfl
  | cons _ _ ih => rw [List.length_cons, List.length_cons, ih]
end
/-- the object of class t that d is -/
def insAt (μ : List Cell) (t : Nat) : D → Option (Nat × List (Str × D))
  | .ref i => match μ[i]? with
    | some (.ins u fs) => if u == t then some (i, fs) else none
    | _ => none
  | _ => none
theorem insAt_ok {S : CS} {A : List Addr} {μ : List Cell} {G H : Hp} (W : Wd S A μ G H) {t i : Nat} {d : D} {fs : List (Str × D)} {x : V} (h : insAt μ t d = some (i, fs)) (r : Rp S.cls A G x d) :
    d = .ref i ∧ i < μ.length ∧ ∃ a dx us, x = .ref a ∧ A[i]? = some a ∧ H a = some (.ins (S.cl t) dx us) ∧ RpFs S.cls A G us fs := by
  unfold insAt at h
  split at h
  · split at h
    · rename_i j _ u gs e
      split at h
      · rename_i hu
        cases h
        have := beq_iff_eq.mp hu
        subst this
        cases r with
        | ref hi =>
          rename_i a
          obtain ⟨n, dx, us, h1, h2⟩ := W.cell _ a _ hi e
          exact ⟨rfl, (List.getElem?_eq_some_iff.mp e).1, a, dx, us, rfl, hi, h1, h2⟩
      · cases h
    · cases h
  · cases h
section
variable {X : Cx} {S : CS} {pos : Pos}
/-- o.f of a cell -/
def zFld (t : Nat) (f : Str) (d : SD D) : SD D := fun ρ μ => (d ρ μ).bind fun p => (insAt p.2 t p.1).bind fun q => (q.2.lookup f).bind fun v => some (v, p.2)
theorem zn_fld {e : Expr} {t : Nat} {f : Str} {d : SD D} (c : Cls X.K (S.cl t)) (n : NoAttr X.K (S.cl t) f) (he : PE X e (zD S d)) (hb : attributeBase e f X.env (eval e X.env) = eval e X.env := by rfl) : PE X (.Attribute e f pos) (zD S (zFld t f d)) :=
  pe_to (pe_fld he hb) fun σ H Q ⟨A, μ, H0, G, ρ, z, μ', en, W, hd, k⟩ => by
    obtain ⟨⟨a, μ1⟩, h1, hd⟩ := obind hd
    obtain ⟨⟨i, fs⟩, h2, hd⟩ := obind hd
    obtain ⟨v, h3, hd⟩ := obind hd
    cases hd
    refine ⟨A, μ, H0, G, ρ, a, _, en, W, h1, fun A1 G1 H1 x x1 W1 r1 => ?_⟩
    obtain ⟨_, _, b, dx, us, rfl, _, g1, g2⟩ := insAt_ok W1 h2 r1
    rcases g2.look f with ⟨_, l2⟩ | ⟨u, d', l1, l2, rr⟩
    · rw [h3] at l2; cases l2
    · rw [h3] at l2; cases l2
      exact ⟨b, _, dx, us, u, rfl, g1, c, n, l1, k A1 G1 H1 u x1 W1 rr⟩
/-- the fields of a Number -/
def fNumF (b : Bool) : D → Option D
  | .num t e => some (if b then t else e)
  | _ => none
theorem num_fs {C : Addr} {A : List Addr} {G : Hp} {x : V} {t e : D} (r : Rp C A G x (.num t e)) : ∃ a dx vt ve, x = .ref a ∧ G a = some (.ins C dx [("tower", vt), ("element", ve)]) ∧ Rp C A G vt t ∧ Rp C A G ve e := by
  cases r with
  | num e1 r1 r2 => exact ⟨_, _, _, _, rfl, e1, r1, r2⟩
theorem dn_tower {e : Expr} {C : Addr} {d : List Sl → Option D} (c : Cls X.K C) (n : NoAttr X.K C "tower") (he : PE X e (tD C d)) (hb : attributeBase e "tower" X.env (eval e X.env) = eval e X.env := by rfl) : PE X (.Attribute e "tower" pos) (tD C (d1 (fNumF true) d)) :=
  pe_to (pe_fld he hb) fun σ H Q ⟨A, H0, G, ρ, z, en, sm, hd, k⟩ => by
    obtain ⟨a, h1, hd⟩ := obind hd
    refine ⟨A, H0, G, ρ, a, en, sm, h1, fun G1 H1 x x1 r1 => ?_⟩
    unfold fNumF at hd
    split at hd
    · cases hd
      obtain ⟨b, dx, vt, ve, rfl, g, ra, rb⟩ := num_fs r1
      exact ⟨b, C, dx, _, vt, rfl, x1.s _ _ g, c, n, rfl, k G1 H1 vt x1 ra⟩
    · cases hd
theorem dn_element {e : Expr} {C : Addr} {d : List Sl → Option D} (c : Cls X.K C) (n : NoAttr X.K C "element") (he : PE X e (tD C d)) (hb : attributeBase e "element" X.env (eval e X.env) = eval e X.env := by rfl) : PE X (.Attribute e "element" pos) (tD C (d1 (fNumF false) d)) :=
  pe_to (pe_fld he hb) fun σ H Q ⟨A, H0, G, ρ, z, en, sm, hd, k⟩ => by
    obtain ⟨a, h1, hd⟩ := obind hd
    refine ⟨A, H0, G, ρ, a, en, sm, h1, fun G1 H1 x x1 r1 => ?_⟩
    unfold fNumF at hd
    split at hd
    · cases hd
      obtain ⟨b, dx, vt, ve, rfl, g, ra, rb⟩ := num_fs r1
      refine ⟨b, C, dx, _, ve, rfl, x1.s _ _ g, c, n, ?_, k G1 H1 ve x1 rb⟩
      rfl
    · cases hd
/-! ### methods -/
section
variable {CX : CXT} {k : Nat} {f : Addr} {fd : FuncData} {ps : List Str} {E : XK} {m : Str} {apos : Pos} {o e : Expr} {es : List Expr} {pl : Sem Bool}
def zMeth (t : Nat) (m : Str) (g : FnS) (d : SD D) (das : SD (List D)) : SD D := fun ρ μ => (d ρ μ).bind fun p => (insAt p.2 t p.1).bind fun q => if (q.2.lookup m).isNone then (das ρ p.2).bind fun r => g (p.1 :: r.1) r.2 else none
theorem izMeth {t : Nat} {g : FnS} {d : SD D} {das : SD (List D)} : ∀ σ H Q, zD S (zMeth t m g d das) σ H Q → tMeth (S.cl t) m (SpS S g) [] E (zD S d) (zA S das) σ H Q := fun σ H Q ⟨A, μ, H0, G, ρ, z, μ', en, W, hd, k⟩ => by
  obtain ⟨⟨a, μ1⟩, h1, hd⟩ := obind hd
  obtain ⟨⟨i, fs⟩, h2, hd⟩ := obind hd
  split at hd
  · rename_i hn
    obtain ⟨⟨ds, μ2⟩, h3, hd⟩ := obind hd
    refine ⟨A, μ, H0, G, ρ, a, _, en, W, h1, fun A1 G1 H1 x x1 W1 r1 => ?_⟩
    obtain ⟨_, _, b, dx, us, rfl, _, g1, g2⟩ := insAt_ok W1 h2 r1
    refine ⟨b, dx, us, rfl, g1, ?_, A1, μ1, H0, G1, ρ, ds, μ2, en.up x1 W1, W1, h3, fun A2 G2 H2 vs x2 W2 r2 => ?_⟩
    · rcases g2.look m with ⟨l1, _⟩ | ⟨u, d', l1, l2, _⟩
      · exact l1
      · simp only at hn; rw [l2] at hn; cases hn
    · exact ⟨A2, μ2, G2, a :: ds, z, μ', W2, by rw [List.append_nil]; exact .cons (r1.up x2.pre x2.g) r2, hd, fun A' G' H' v x3 W3 r3 => k A' G' H' v ((x1.trans x2).trans x3) W3 r3⟩
  · cases hd
theorem zn_meth {t : Nat} {g : FnS} {d : SD D} {das : SD (List D)} (he : PE X o (zD S d)) (c : Cls X.K (S.cl t)) (hm : Meth X.K (S.cl t) m f) (F : FnOk X.prog X.w X.K X.mg X.base CX k f fd ps (SpS S g)) (hr : Room k X.A) (hb : Binds X.K fd ps []) (hx : Passes CX X E) (ha : PA X (e :: es) (zA S das))
    (hst : starEach (e :: es) X.env = (false, eval e X.env) :: starEach es X.env := by rfl) (hpl : (backTo pos (starEach es X.env)).any (·.1) = false := by rfl)
    (ht : eval (.Call (.Attribute o m apos) (e :: es) [] pos) X.env = (do
      let ov ← eval o X.env
      standAt apos.atName
      let (f, first) ← holding [ov] (getMethod ov m pl)
      callWith pos f first (backTo pos (starEach (e :: es) X.env)) (backToKw pos (keywordEach [] X.env))) := by rfl) :
    PE X (.Call (.Attribute o m apos) (e :: es) [] pos) (zD S (zMeth t m g d das)) := pe_to (pe_meth he c hm F hr hb .nil hx ha hst hpl ht) izMeth
theorem zn_meth0 {t : Nat} {g : FnS} {d : SD D} (he : PE X o (zD S d)) (c : Cls X.K (S.cl t)) (hm : Meth X.K (S.cl t) m f) (F : FnOk X.prog X.w X.K X.mg X.base CX k f fd ps (SpS S g)) (hr : Room k X.A) (hb : Binds X.K fd ps []) (hx : Passes CX X E)
    (ht : eval (.Call (.Attribute o m apos) [] [] pos) X.env = (do
      let ov ← eval o X.env
      standAt apos.atName
      let (f, first) ← holding [ov] (getMethod ov m pl)
      callWith pos f first (backTo pos (starEach [] X.env)) (backToKw pos (keywordEach [] X.env))) := by rfl) :
    PE X (.Call (.Attribute o m apos) [] [] pos) (zD S (zMeth t m g d y0)) := pe_to (pe_meth0 he c hm F hr hb .nil hx ht) fun σ H Q h => by
  obtain ⟨A, μ, H0, G, ρ, z, μ', en, W, h1, kk⟩ := izMeth (E := E) σ H Q h
  refine ⟨A, μ, H0, G, ρ, z, μ', en, W, h1, fun A1 G1 H1 x x1 W1 r1 => ?_⟩
  obtain ⟨a, dx, fs, e1, e2, e3, B, ν, I0, J, τ, l, ν', en2, W2, hl, k2⟩ := kk A1 G1 H1 x x1 W1 r1
  cases hl
  exact ⟨a, dx, fs, e1, e2, e3, k2 B J H1 [] .refl W2 .nil⟩
/-- methods of a Number that compute g -/
def dMethN (g : List D → Option D) (d : List Sl → Option D) (das : List Sl → Option (List D)) : List Sl → Option D := fun ρ => (d ρ).bind fun a => match a with
  | .num t e => (das ρ).bind fun ds => g (.num t e :: ds)
  | _ => none
theorem idMeth {C : Addr} {g : List D → Option D} {d : List Sl → Option D} {das : List Sl → Option (List D)} (hm1 : ((m == ("tower" : Str)) = false)) (hm2 : ((m == ("element" : Str)) = false)) : ∀ σ H Q, tD C (dMethN g d das) σ H Q → tMeth C m (SpD C g) [] E (tD C d) (tA C das) σ H Q := fun σ H Q ⟨A, H0, G, ρ, z, en, sm, hd, k⟩ => by
  obtain ⟨a, h1, hd⟩ := obind hd
  refine ⟨A, H0, G, ρ, a, en, sm, h1, fun G1 H1 x x1 r1 => ?_⟩
  split at hd
  · obtain ⟨ds, h2, hd⟩ := obind hd
    obtain ⟨b, dx, vt, ve, rfl, g1, ra, rb⟩ := num_fs r1
    refine ⟨b, dx, _, rfl, x1.s _ _ g1, ?_, A, H0, G1, ρ, ds, en.ext x1, x1.s, h2, fun G2 H2 vs x2 r2 => ?_⟩
    · rw [List.lookup_cons, hm1, List.lookup_cons, hm2]; rfl
    · exact ⟨A, G2, _, z, ((en.ext x1).ext x2).cel, x2.s, by rw [List.append_nil]; exact .cons (r1.mono x2.g) r2, hd, fun G' H' v x3 r3 => k G' H' v ((x1.trans x2).trans x3) r3⟩
  · cases hd
theorem dn_methN {C : Addr} {g : List D → Option D} {d : List Sl → Option D} {das : List Sl → Option (List D)} (he : PE X o (tD C d)) (c : Cls X.K C) (hm : Meth X.K C m f) (F : FnOk X.prog X.w X.K X.mg X.base CX k f fd ps (SpD C g)) (hr : Room k X.A) (hb : Binds X.K fd ps []) (hx : Passes CX X E) (ha : PA X (e :: es) (tA C das))
    (hst : starEach (e :: es) X.env = (false, eval e X.env) :: starEach es X.env := by rfl) (hpl : (backTo pos (starEach es X.env)).any (·.1) = false := by rfl) (hm1 : ((m == ("tower" : Str)) = false) := by decide) (hm2 : ((m == ("element" : Str)) = false) := by decide)
    (ht : eval (.Call (.Attribute o m apos) (e :: es) [] pos) X.env = (do
      let ov ← eval o X.env
      standAt apos.atName
      let (f, first) ← holding [ov] (getMethod ov m pl)
      callWith pos f first (backTo pos (starEach (e :: es) X.env)) (backToKw pos (keywordEach [] X.env))) := by rfl) :
    PE X (.Call (.Attribute o m apos) (e :: es) [] pos) (tD C (dMethN g d das)) := pe_to (pe_meth he c hm F hr hb .nil hx ha hst hpl ht) (idMeth hm1 hm2)
theorem dn_methN0 {C : Addr} {g : List D → Option D} {d : List Sl → Option D} (he : PE X o (tD C d)) (c : Cls X.K C) (hm : Meth X.K C m f) (F : FnOk X.prog X.w X.K X.mg X.base CX k f fd ps (SpD C g)) (hr : Room k X.A) (hb : Binds X.K fd ps []) (hx : Passes CX X E) (hm1 : ((m == ("tower" : Str)) = false) := by decide) (hm2 : ((m == ("element" : Str)) = false) := by decide)
    (ht : eval (.Call (.Attribute o m apos) [] [] pos) X.env = (do
      let ov ← eval o X.env
      standAt apos.atName
      let (f, first) ← holding [ov] (getMethod ov m pl)
      callWith pos f first (backTo pos (starEach [] X.env)) (backToKw pos (keywordEach [] X.env))) := by rfl) :
    PE X (.Call (.Attribute o m apos) [] [] pos) (tD C (dMethN g d a0)) := pe_to (pe_meth0 he c hm F hr hb .nil hx ht) fun σ H Q h => by
  obtain ⟨A, H0, G, ρ, z, en, sm, h1, kk⟩ := idMeth (E := E) hm1 hm2 σ H Q h
  refine ⟨A, H0, G, ρ, z, en, sm, h1, fun G1 H1 x x1 r1 => ?_⟩
  obtain ⟨a, dx, fs, e1, e2, e3, B, I0, J, τ, l, en2, sm2, hl, k2⟩ := kk G1 H1 x x1 r1
  cases hl
  exact ⟨a, dx, fs, e1, e2, e3, k2 J H1 [] (.refl sm2) .nil⟩
end
/-! ### new cells -/
theorem Wd.add {A : List Addr} {μ : List Cell} {G H H' : Hp} {x : Addr} {c : Cell} (W : Wd S A μ G H) (hx : H x = none) (hH : ∀ b o, H b = some o → H' b = some o) (ok : CellOk S (A ++ [x]) G H' x c) : Wd S (A ++ [x]) (μ ++ [c]) G H' ∧ Ex A G H (A ++ [x]) G H' := by
  have gx : G x = none := none_of W.same hx
  have nx : x ∉ A := fun z => by
    obtain ⟨⟨o, e⟩, _⟩ := W.cel x z
    rw [hx] at e; cases e
  refine ⟨⟨W.same.trans hH, by rw [List.length_append, List.length_append, W.len]; rfl, ?_, fun i a d h1 h2 => ?_⟩, ⟨[x], rfl, fun b hb => by rw [List.mem_singleton.mp hb]; exact hx⟩, fun _ _ h => h, fun b o _ h => hH b o h, fun _ _ _ h => h, fun b o h => ⟨o, hH b o h⟩⟩
  · refine List.nodup_append.mpr ⟨W.nd, by simp, fun a ha b hb e => ?_⟩
    rw [List.mem_singleton.mp hb] at e
    subst e
    exact nx ha
  · by_cases hi : i < A.length
    · rw [List.getElem?_append_left hi] at h1
      rw [List.getElem?_append_left (by rw [← W.len]; exact hi)] at h2
      obtain ⟨n, ok'⟩ := W.cell i a d h1 h2
      obtain ⟨o, e⟩ := ok'.some
      exact ⟨n, ok'.up ⟨[x], rfl⟩ (fun _ _ h => h) ((hH _ _ e).trans e.symm)⟩
    · rw [List.getElem?_append_right (by omega)] at h1
      rw [List.getElem?_append_right (by rw [← W.len]; omega), ← W.len] at h2
      have : i - A.length = 0 := by
        have := (List.getElem?_eq_some_iff.mp h1).1
        rw [List.length_singleton] at this
        omega
      rw [this] at h1 h2
      cases h1
      cases h2
      exact ⟨gx, ok⟩
def zDict : SD D := fun _ μ => some (.ref μ.length, μ ++ [.dic []])
theorem zn_dict (hP : X.prog = S.P) (hw : X.w = S.w) : PE X (.Dict [] [] pos) (zD S zDict) :=
  pe_to pe_dnewX fun σ H Q ⟨A, μ, H0, G, ρ, d, μ', en, W, hd, k⟩ => fun p np => by
    cases hd
    obtain ⟨W2, x2⟩ := W.add (H' := upd H p (dicO X.prog X.w p [])) (c := .dic []) np (same_new np _) ⟨[], by rw [hP, hw]; exact upd_same, .nil⟩
    refine k _ G _ _ x2 W2 (.ref ?_)
    rw [← W.len, List.getElem?_append_right (Nat.le_refl _), Nat.sub_self]
    rfl
section
variable {CX : CXT} {k : Nat} {f : Addr} {fd : FuncData} {ps : List Str} {E : XK} {x : Str} {p : Pos} {e : Expr} {es : List Expr}
def zMake (t : Nat) (g : FnS) (das : SD (List D)) : SD D := fun ρ μ => (das ρ μ).bind fun p => (g (.ref p.2.length :: p.1) (p.2 ++ [.ins t []])).bind fun r => match r.1 with
  | .non => some (.ref p.2.length, r.2)
  | _ => none
theorem make_ok {t : Nat} {g : FnS} {A : List Addr} {μ μ' : List Cell} {G H : Hp} {ds : List D} {vs : List V} {Q : VK} {z : D} (W : Wd S A μ G H) (r : RpAll S.cls A G vs ds) (hd : ((g (.ref μ.length :: ds) (μ ++ [.ins t []])).bind fun r => match r.1 with
    | .non => some (D.ref μ.length, r.2)
    | _ => none) = some (z, μ')) (k : ∀ A' G' H' v, Ex A G H A' G' H' → Wd S A' μ' G' H' → Rp S.cls A' G' v z → Q v H') :
    ∀ x dx, H x = none → H dx = none → dx ≠ x → SpS S g (.ref x :: (vs ++ [])) (upd (upd H dx (.own x)) x (.ins (S.cl t) dx [])) (fun v H2 => v = .non ∧ Q (.ref x) H2) E := fun x dx hx hdx ne => by
  obtain ⟨⟨d, μ2⟩, h1, hd⟩ := obind hd
  simp only at hd
  split at hd
  · cases hd
    have hH : ∀ b o, H b = some o → (upd (upd H dx (.own x)) x (.ins (S.cl t) dx [])) b = some o := fun b o h => by
      rw [upd_ne (ne_of_none h hx), upd_ne (ne_of_none h hdx)]; exact h
    obtain ⟨W2, x2⟩ := W.add (c := .ins t []) hx hH ⟨dx, [], upd_same, .nil⟩
    have gi : (A ++ [x])[μ.length]? = some x := by
      rw [← W.len, List.getElem?_append_right (Nat.le_refl _), Nat.sub_self]; rfl
    refine ⟨_, _, G, _, _, _, W2, .cons (.ref gi) (by rw [List.append_nil]; exact r.up x2.pre x2.g), h1, fun A' G' H' v x3 W3 r3 => ?_⟩
    cases r3
    obtain ⟨nw, e1⟩ := x3.pre
    exact ⟨rfl, k A' G' H' _ (x2.trans x3) W3 (.ref (get_pre e1 gi))⟩
  · cases hd
theorem zn_make {t : Nat} {g : FnS} {das : SD (List D)} (M : Mk X.K (S.cl t) f) (F : FnOk X.prog X.w X.K X.mg X.base CX k f fd ps (SpS S g)) (hr : Room (k + 1) X.A) (hg : Gl X x) (hm : X.mg x = some (.ref (S.cl t))) (hb : Binds X.K fd ps []) (hx : Passes CX X E)
    (ha : PA X (e :: es) (zA S das)) (hdb : (x == ("__debug__" : Str)) = false := by decide) (he : starEach (e :: es) X.env = (false, eval e X.env) :: starEach es X.env := by rfl) (hpl : (backTo pos (starEach es X.env)).any (·.1) = false := by rfl) :
    PE X (.Call (.Name x p) (e :: es) [] pos) (zD S (zMake t g das)) := pe_to (pe_make M F hr hg hm hb .nil hx ha hdb he hpl) fun σ H Q ⟨A, μ, H0, G, ρ, d, μ', en, W, hd, k⟩ => by
  obtain ⟨⟨ds, μ1⟩, h1, hd⟩ := obind hd
  exact ⟨A, μ, H0, G, ρ, ds, μ1, en, W, h1, fun A1 G1 H1 vs x1 W1 r1 => make_ok W1 r1 hd fun A' G' H' v x2 W2 r2 => k A' G' H' v (x1.trans x2) W2 r2⟩
theorem zn_make0 {t : Nat} {g : FnS} (M : Mk X.K (S.cl t) f) (F : FnOk X.prog X.w X.K X.mg X.base CX k f fd ps (SpS S g)) (hr : Room (k + 1) X.A) (hg : Gl X x) (hm : X.mg x = some (.ref (S.cl t))) (hb : Binds X.K fd ps []) (hx : Passes CX X E)
    (hdb : (x == ("__debug__" : Str)) = false := by decide) : PE X (.Call (.Name x p) [] [] pos) (zD S (zMake t g y0)) := pe_to (pe_make0 M F hr hg hm hb .nil hx hdb) fun σ H Q ⟨A, μ, H0, G, ρ, d, μ', en, W, hd, k⟩ => by
  obtain ⟨⟨ds, μ1⟩, h1, hd⟩ := obind hd
  cases h1
  exact make_ok W .nil hd k
end
/-! ### dicts -/
def dicAt (μ : List Cell) : D → Option (Nat × List (D × D))
  | .ref i => match μ[i]? with
    | some (.dic kvs) => some (i, kvs)
    | _ => none
  | _ => none
theorem dicAt_ok {A : List Addr} {μ : List Cell} {G H : Hp} (W : Wd S A μ G H) {i : Nat} {d : D} {kvs : List (D × D)} {x : V} (h : dicAt μ d = some (i, kvs)) (r : Rp S.cls A G x d) :
    d = .ref i ∧ i < μ.length ∧ ∃ a xs, x = .ref a ∧ A[i]? = some a ∧ H a = some (dicO S.P S.w a xs) ∧ RpKs S.cls A G xs kvs := by
  unfold dicAt at h
  split at h
  · split at h
    · rename_i j _ gs e
      cases h
      cases r with
      | ref hi =>
        rename_i a
        obtain ⟨n, xs, h1, h2⟩ := W.cell _ a _ hi e
        exact ⟨rfl, (List.getElem?_eq_some_iff.mp e).1, a, xs, rfl, hi, h1, h2⟩
    · cases h
  · cases h
def nkIs (k : NestedKey) (d : D) : Bool := match nk d with
  | some k' => decide (k' = k)
  | none => false
def getK (kvs : List (D × D)) (k : NestedKey) : Option D := (kvs.find? fun p => nkIs k p.1).map (·.2)
def putK (kvs : List (D × D)) (k : NestedKey) (kd v : D) : List (D × D) := if (getK kvs k).isSome then kvs.map fun p => if nkIs k p.1 then (p.1, v) else p else kvs ++ [(kd, v)]
theorem RpKs.keys {C : Addr} {A : List Addr} {G H : Hp} (sm : Same G H) {xs : DXs} {kvs : List (D × D)} (h : RpKs C A G xs kvs) : DKs H xs := by
  induction h with
  | nil => intro x hx; cases hx
  | cons r1 k d r2 _ ih =>
    intro x hx
    rcases List.mem_cons.mp hx with rfl | hx
    · exact ⟨r1.nk sm k, d⟩
    · exact ih x hx
theorem RpKs.at {C : Addr} {A : List Addr} {G : Hp} {xs : DXs} {kvs : List (D × D)} (h : RpKs C A G xs kvs) (k : NestedKey) : (atX xs k = none ∧ getK kvs k = none) ∨ ∃ v d, atX xs k = some v ∧ getK kvs k = some d ∧ Rp C A G v d := by
  induction h with
  | nil => exact .inl ⟨rfl, rfl⟩
  | cons r1 hk d r2 _ ih =>
    rename_i k0 a v kd vd xs kvs _
    unfold atX getK at ih ⊢
    rw [List.find?_cons, List.find?_cons]
    have e : nkIs k kd = decide (k0 = k) := by unfold nkIs; rw [hk]
    rw [e]
    by_cases z : k0 = k
    · rw [decide_eq_true z]; exact .inr ⟨v, vd, rfl, rfl, r2⟩
    · rw [decide_eq_false z]; exact ih
theorem RpKs.put {C : Addr} {A : List Addr} {G : Hp} {xs : DXs} {kvs : List (D × D)} (h : RpKs C A G xs kvs) {k : NestedKey} {a : Addr} {v : V} {kd vd : D} (rk : Rp C A G (.ref a) kd) (hk : nk kd = some k) (kdp : k.depth ≤ 8) (rv : Rp C A G v vd) : RpKs C A G (storedX xs k a v) (putK kvs k kd vd) := by
  have mp : ∀ {xs : DXs} {kvs : List (D × D)}, RpKs C A G xs kvs → RpKs C A G (xs.map (putX k v)) (kvs.map fun p => if nkIs k p.1 then (p.1, vd) else p) := by
    intro xs kvs h
    induction h with
    | nil => exact .nil
    | cons r1 hk1 d r2 _ ih =>
      rename_i k0 a0 v0 kd0 vd0 xs kvs _
      have e : nkIs k kd0 = decide (k0 = k) := by unfold nkIs; rw [hk1]
      rw [List.map_cons, List.map_cons]
      unfold putX
      by_cases z : k0 = k
      · rw [if_pos z, e, decide_eq_true z, if_pos rfl]; exact .cons r1 hk1 d rv ih
      · rw [if_neg z, e, decide_eq_false z, if_neg Bool.false_ne_true]; exact .cons r1 hk1 d r2 ih
  have ap : ∀ {xs : DXs} {kvs : List (D × D)}, RpKs C A G xs kvs → RpKs C A G (xs ++ [(k, a, v)]) (kvs ++ [(kd, vd)]) := by
    intro xs kvs h
    induction h with
    | nil => exact .cons rk hk kdp rv .nil
    | cons r1 hk1 d r2 _ ih => exact .cons r1 hk1 d r2 ih
  unfold storedX putK
  rcases h.at k with ⟨h1, h2⟩ | ⟨v', d', h1, h2, _⟩
  · rw [h1, h2]; exact ap h
  · rw [h1, h2]; exact mp h
theorem RpKs.len {C : Addr} {A : List Addr} {G : Hp} {xs : DXs} {kvs : List (D × D)} (h : RpKs C A G xs kvs) : xs.length = kvs.length := by
  induction h with
  | nil => rfl
  | cons _ _ _ _ _ ih => rw [List.length_cons, List.length_cons, ih]
def isTup : D → Bool
  | .tup _ => true
  | _ => false
def keyOf (d : D) : Option NestedKey := if isTup d then (nk d).bind fun k => if decide (k.depth ≤ 8) then some k else none else none
theorem keyOf_ok {C : Addr} {A : List Addr} {G : Hp} {d : D} {k : NestedKey} {x : V} (h : keyOf d = some k) (r : Rp C A G x d) : nk d = some k ∧ k.depth ≤ 8 ∧ ∃ a, x = .ref a := by
  unfold keyOf at h
  split at h
  · rename_i ht
    obtain ⟨k', h1, h⟩ := obind h
    obtain ⟨h2, rfl⟩ := oif h
    refine ⟨h1, of_decide_eq_true h2, ?_⟩
    cases d <;> simp [isTup] at ht
    cases r; exact ⟨_, rfl⟩
  · cases h
def zIn (neg : Bool) (dk dd : SD D) : SD D := fun ρ μ => (dk ρ μ).bind fun p => (dd ρ p.2).bind fun q => (keyOf p.1).bind fun k => (dicAt q.2 q.1).bind fun c => some (.bl (neg != (getK c.2 k).isSome), q.2)
theorem iIn {dk dd : SD D} (hP : X.prog = S.P) (hw : X.w = S.w) : ∀ σ H Q, zD S (zIn false dk dd) σ H Q → tOp (rInX X.prog X.w) (zD S dk) (zD S dd) σ H Q := fun σ H Q ⟨A, μ, H0, G, ρ, d, μ', en, W, hd, k⟩ => by
  obtain ⟨⟨a, μ1⟩, h1, hd⟩ := obind hd
  obtain ⟨⟨b, μ2⟩, h2, hd⟩ := obind hd
  obtain ⟨ky, h3, hd⟩ := obind hd
  obtain ⟨⟨i, kvs⟩, h4, hd⟩ := obind hd
  cases hd
  refine ⟨A, μ, H0, G, ρ, a, μ1, en, W, h1, fun A1 G1 H1 x x1 W1 r1 => ⟨A1, μ1, H0, G1, ρ, b, _, en.up x1 W1, W1, h2, fun A2 G2 H2 y x2 W2 r2 => ?_⟩⟩
  have r1' := r1.up x2.pre x2.g
  obtain ⟨k1, k2, ad, rfl⟩ := keyOf_ok h3 r1'
  obtain ⟨_, _, c, xs, rfl, _, g1, g2⟩ := dicAt_ok W2 h4 r2
  refine ⟨ad, c, xs, ky, rfl, rfl, by rw [hP, hw]; exact g1, g2.keys W2.same, r1'.nk W2.same k1, k2, ?_⟩
  refine k A2 G2 H2 _ (x1.trans x2) W2 ?_
  rcases g2.at ky with ⟨l1, l2⟩ | ⟨v', d', l1, l2, _⟩
  · simp only [l2]; rw [l1]; exact .bl _
  · simp only [l2]; rw [l1]; exact .bl _
theorem iNotIn {dk dd : SD D} (hP : X.prog = S.P) (hw : X.w = S.w) : ∀ σ H Q, zD S (zIn true dk dd) σ H Q → tOp (fun x y H Q => ∃ a d xs k, x = .ref a ∧ y = .ref d ∧ H d = some (dicO X.prog X.w d xs) ∧ DKs H xs ∧ NkV H k (.ref a) ∧ k.depth ≤ 8 ∧ Q (.bl (!(atX xs k).isSome)) H) (zD S dk) (zD S dd) σ H Q := fun σ H Q ⟨A, μ, H0, G, ρ, d, μ', en, W, hd, k⟩ => by
  obtain ⟨⟨a, μ1⟩, h1, hd⟩ := obind hd
  obtain ⟨⟨b, μ2⟩, h2, hd⟩ := obind hd
  obtain ⟨ky, h3, hd⟩ := obind hd
  obtain ⟨⟨i, kvs⟩, h4, hd⟩ := obind hd
  cases hd
  refine ⟨A, μ, H0, G, ρ, a, μ1, en, W, h1, fun A1 G1 H1 x x1 W1 r1 => ⟨A1, μ1, H0, G1, ρ, b, _, en.up x1 W1, W1, h2, fun A2 G2 H2 y x2 W2 r2 => ?_⟩⟩
  have r1' := r1.up x2.pre x2.g
  obtain ⟨k1, k2, ad, rfl⟩ := keyOf_ok h3 r1'
  obtain ⟨_, _, c, xs, rfl, _, g1, g2⟩ := dicAt_ok W2 h4 r2
  refine ⟨ad, c, xs, ky, rfl, rfl, by rw [hP, hw]; exact g1, g2.keys W2.same, r1'.nk W2.same k1, k2, ?_⟩
  refine k A2 G2 H2 _ (x1.trans x2) W2 ?_
  rcases g2.at ky with ⟨l1, l2⟩ | ⟨v', d', l1, l2, _⟩
  · simp only [l2]; rw [l1]; exact .bl _
  · simp only [l2]; rw [l1]; exact .bl _
section
variable {a b : Expr} {da db : SD D}
theorem zn_in (hP : X.prog = S.P) (hw : X.w = S.w) (hu : X.A.units + 64 < cLine) (ha : PE X a (zD S da)) (hb : PE X b (zD S db)) (hm : behindInMarks .In b = false := by rfl) : PE X (.Compare a [.In] [b] pos) (zD S (zIn false da db)) := pe_to (pe_cmpR (op_inX hu) ha hb hm) (iIn hP hw)
theorem zt_in (hP : X.prog = S.P) (hw : X.w = S.w) (hu : X.A.units + 64 < cLine) (ha : PE X a (zD S da)) (hb : PE X b (zD S db)) (hm : behindInMarks .In b = false := by rfl) : PT X (.Compare a [.In] [b] pos) (zB S (zAsB (zIn false da db))) := pt_to (pt_cmpR (op_inX hu) ha hb hm) (ztest_of (iIn hP hw))
theorem zt_notin (hP : X.prog = S.P) (hw : X.w = S.w) (hu : X.A.units + 64 < cLine) (ha : PE X a (zD S da)) (hb : PE X b (zD S db)) (hm : behindInMarks .NotIn b = false := by rfl) : PT X (.Compare a [.NotIn] [b] pos) (zB S (zAsB (zIn true da db))) := pt_to (pt_cmpR (op_notInX hu) ha hb hm) (ztest_of (iNotIn hP hw))
/-- d[k] -/
def zIxK (dd dk : SD D) : SD D := fun ρ μ => (dd ρ μ).bind fun p => (dk ρ p.2).bind fun q => (keyOf q.1).bind fun k => (dicAt q.2 p.1).bind fun c => (getK c.2 k).bind fun v => some (v, q.2)
theorem zn_ixK (hP : X.prog = S.P) (hw : X.w = S.w) (hu : X.A.units + 64 < cLine) (ha : PE X a (zD S da)) (hb : PE X b (zD S db)) (hs : PlainIx b) : PE X (.Subscript a b pos) (zD S (zIxK da db)) := pe_to (pe_ix (ix_X hu) ha hb hs) fun σ H Q ⟨A, μ, H0, G, ρ, d, μ', en, W, hd, k⟩ => by
  obtain ⟨⟨a, μ1⟩, h1, hd⟩ := obind hd
  obtain ⟨⟨b, μ2⟩, h2, hd⟩ := obind hd
  obtain ⟨ky, h3, hd⟩ := obind hd
  obtain ⟨⟨i, kvs⟩, h4, hd⟩ := obind hd
  obtain ⟨vd, h5, hd⟩ := obind hd
  cases hd
  refine ⟨A, μ, H0, G, ρ, a, μ1, en, W, h1, fun A1 G1 H1 x x1 W1 r1 => ⟨A1, μ1, H0, G1, ρ, b, _, en.up x1 W1, W1, h2, fun A2 G2 H2 y x2 W2 r2 => ?_⟩⟩
  have r1' := r1.up x2.pre x2.g
  obtain ⟨k1, k2, ad, rfl⟩ := keyOf_ok h3 r2
  obtain ⟨_, _, c, xs, rfl, _, g1, g2⟩ := dicAt_ok W2 h4 r1'
  rcases g2.at ky with ⟨l1, l2⟩ | ⟨v', d', l1, l2, rr⟩
  · rw [h5] at l2; cases l2
  · rw [h5] at l2; cases l2
    exact ⟨ad, c, xs, ky, v', rfl, rfl, by rw [hP, hw]; exact g1, g2.keys W2.same, r2.nk W2.same k1, k2, l1, k A2 G2 H2 v' (x1.trans x2) W2 rr⟩
end
end
end DN

set_option maxHeartbeats 1000000
/-! statements that change cells -/
namespace DN
open PySem PySem.Spec PyProof.Rows L2 KG
abbrev ZS := List Sl → List Cell → Option (Out × List Cell)
def FinZ (S : CS) (A0 : List Addr) (G0 H0 : Hp) (As : List Addr) (Gs : Hp) (E : Ends) (μ' : List Cell) : Out → Prop
  | .nx ρ => ∀ A G H σ, (∃ nw, A = As ++ nw) → Same Gs G → Ex A0 G0 H0 A G H → En S.cls A H0 G H σ ρ → Wd S A μ' G H → E.nx σ H
  | .rt d => ∀ A G H v, Ex A0 G0 H0 A G H → Wd S A μ' G H → Rp S.cls A G v d → E.rt v H
  | .bk ρ => ∀ A G H σ, (∃ nw, A = As ++ nw) → Same Gs G → Ex A0 G0 H0 A G H → En S.cls A H0 G H σ ρ → Wd S A μ' G H → E.bk σ H
  | .ct ρ => ∀ A G H σ, (∃ nw, A = As ++ nw) → Same Gs G → Ex A0 G0 H0 A G H → En S.cls A H0 G H σ ρ → Wd S A μ' G H → E.ct σ H
theorem pre_tr {A B C : List Addr} (h : ∃ nw, B = A ++ nw) (k : ∃ nw, C = B ++ nw) : ∃ nw, C = A ++ nw := by
  obtain ⟨n, rfl⟩ := h
  obtain ⟨m, rfl⟩ := k
  exact ⟨n ++ m, by rw [List.append_assoc]⟩
theorem pre_rf {A : List Addr} : ∃ nw, A = A ++ nw := ⟨[], by simp⟩
theorem FinZ.mono {S : CS} {A0 : List Addr} {G0 H0 : Hp} {As At : List Addr} {Gs Gt : Hp} {E : Ends} {μ' : List Cell} (p : ∃ nw, At = As ++ nw) (s : Same Gs Gt) : ∀ {o : Out}, FinZ S A0 G0 H0 As Gs E μ' o → FinZ S A0 G0 H0 At Gt E μ' o
  | .nx _, h => fun A G H σ p2 s2 => h A G H σ (pre_tr p p2) (s.trans s2)
  | .rt _, h => h
  | .bk _, h => fun A G H σ p2 s2 => h A G H σ (pre_tr p p2) (s.trans s2)
  | .ct _, h => fun A G H σ p2 s2 => h A G H σ (pre_tr p p2) (s.trans s2)
def tZ (S : CS) (den : ZS) : TS := fun E σ H => ∃ A0 G0 H0 A μ G ρ o μ', Ex A0 G0 H0 A G H ∧ En S.cls A H0 G H σ ρ ∧ Wd S A μ G H ∧ den ρ μ = some (o, μ') ∧ FinZ S A0 G0 H0 A G E μ' o
/-! what only reads cells' addresses, lifted -/
open Classical in
noncomputable def hid (σ : L2.St) (ρ : List Sl) (H : Hp) : Hp := fun a => if ∃ (i : Nat) (ds : List D), ρ[i]? = some (Sl.own ds) ∧ σ[i]? = some (some (V.ref a)) then none else H a
theorem hid_of {σ : L2.St} {ρ : List Sl} {H : Hp} {a : Addr} (h : ¬ ∃ (i : Nat) (ds : List D), ρ[i]? = some (Sl.own ds) ∧ σ[i]? = some (some (V.ref a))) : hid σ ρ H a = H a := by unfold hid; exact if_neg h
theorem hid_no {σ : L2.St} {ρ : List Sl} {H : Hp} {a : Addr} (h : ∃ (i : Nat) (ds : List D), ρ[i]? = some (Sl.own ds) ∧ σ[i]? = some (some (V.ref a))) : hid σ ρ H a = none := by unfold hid; exact if_pos h
theorem hid_le {σ : L2.St} {ρ : List Sl} {H : Hp} {a : Addr} {o : HO} (h : hid σ ρ H a = some o) : H a = some o := by
  by_cases q : ∃ (i : Nat) (ds : List D), ρ[i]? = some (Sl.own ds) ∧ σ[i]? = some (some (V.ref a))
  · rw [hid_no q] at h; cases h
  · rw [hid_of q] at h; exact h
theorem hid_lift {S : CS} {A0 A : List Addr} {G0 H0 G H G1 H1 : Hp} {σ σ1 : L2.St} {ρ ρ1 : List Sl} {μ : List Cell} (x0 : Ex A0 G0 H0 A G H) (en : En S.cls A H0 G H σ ρ) (W : Wd S A μ G H) (x1 : Ext G (hid σ ρ H) G1 H1) :
    Ex A0 G0 H0 A G1 H1 ∧ Wd S A μ G1 H1 ∧ (En S.cls A (hid σ ρ H) G1 H1 σ1 ρ1 → En S.cls A H0 G1 H1 σ1 ρ1) := by
  have hz : ∀ {a}, (∃ (i : Nat) (ds : List D), ρ[i]? = some (Sl.own ds) ∧ σ[i]? = some (some (V.ref a))) → H0 a = none ∧ a ∉ A := fun {a} ⟨i, ds, q1, q2⟩ => by
    obtain ⟨b, vs, p1, p2, p3, p4, p5, p6⟩ := en.own i ds q1
    rw [q2] at p1; cases p1; exact ⟨p4, p6⟩
  have up0 : ∀ {b o}, H0 b = some o → ∀ {o'}, H b = some o' → hid σ ρ H b = some o' := fun {b o} q {o'} q' => by
    rw [hid_of fun z => by rw [(hz z).1] at q; cases q]; exact q'
  refine ⟨⟨x0.a, x0.g.trans x1.g, fun b o nb q => x1.h _ _ (up0 q (x0.h b o nb q)), fun b o q q' => ?_, fun b o q => ?_⟩, ⟨x1.s, W.len, W.nd, fun i a c h1 h2 => ?_⟩, fun e => ⟨e.len, e.val, fun i ds h => ?_, e.sep, e.cel⟩⟩
  · obtain ⟨o', q2⟩ := x0.l b o q
    exact x1.f _ _ (up0 q q2) (x0.f b o q q')
  · obtain ⟨o', q2⟩ := x0.l b o q
    exact ⟨o', x1.h _ _ (up0 q q2)⟩
  · obtain ⟨n, ok⟩ := W.cell i a c h1 h2
    obtain ⟨o, e⟩ := ok.some
    have e' : hid σ ρ H a = some o := by rw [hid_of fun z => (hz z).2 (List.mem_of_getElem? h1)]; exact e
    exact ⟨x1.f _ _ e' n, ok.up pre_rf x1.g ((x1.h _ _ e').trans e.symm)⟩
  · obtain ⟨a, vs, p1, p2, p3, p4, p5, p6⟩ := e.own i ds h
    refine ⟨a, vs, p1, p2, p3, ?_, p5, p6⟩
    cases q : H0 a with
    | none => rfl
    | some o =>
      obtain ⟨o', q2⟩ := x0.l a o q
      rw [up0 q q2] at p4; cases p4
theorem hid_en {S : CS} {A : List Addr} {H0 G H : Hp} {σ : L2.St} {ρ : List Sl} (en : En S.cls A H0 G H σ ρ) : En S.cls A (hid σ ρ H) G H σ ρ := ⟨en.len, en.val, fun i ds h => by
  obtain ⟨a, vs, p1, p2, p3, p4, p5, p6⟩ := en.own i ds h
  exact ⟨a, vs, p1, p2, p3, hid_no ⟨i, ds, h, p1⟩, p5, p6⟩, en.sep, en.cel⟩
theorem z_liftS {S : CS} {den : List Sl → Option Out} : ∀ E σ H, tZ S (lf den) E σ H → tS S.cls den E σ H := fun E σ H ⟨A0, G0, H0, A, μ, G, ρ, o, μ', x0, en, W, hd, fin⟩ => by
  obtain ⟨o', h1, hd⟩ := obind hd
  obtain ⟨rfl, rfl⟩ : o' = o ∧ μ = μ' := by cases hd; exact ⟨rfl, rfl⟩
  refine ⟨A, G, hid σ ρ H, G, ρ, o', ⟨fun _ _ h => h, W.same, fun b o h => hid_le h, fun b o _ g => g⟩, hid_en en, h1, ?_⟩
  cases o' with
  | nx ρ1 => exact fun G1 H1 σ1 s1 x1 e1 => let ⟨a, b, c⟩ := hid_lift (ρ1 := ρ1) (σ1 := σ1) x0 en W x1; fin A G1 H1 σ1 pre_rf s1 a (c e1) b
  | rt d => exact fun G1 H1 v x1 r1 => let ⟨a, b, c⟩ := hid_lift (ρ1 := []) (σ1 := []) x0 en W x1; fin A G1 H1 v a b r1
  | bk ρ1 => exact fun G1 H1 σ1 s1 x1 e1 => let ⟨a, b, c⟩ := hid_lift (ρ1 := ρ1) (σ1 := σ1) x0 en W x1; fin A G1 H1 σ1 pre_rf s1 a (c e1) b
  | ct ρ1 => exact fun G1 H1 σ1 s1 x1 e1 => let ⟨a, b, c⟩ := hid_lift (ρ1 := ρ1) (σ1 := σ1) x0 en W x1; fin A G1 H1 σ1 pre_rf s1 a (c e1) b
section
variable {X : Cx} {S : CS} {pos : Pos}
theorem zs {st : Stmt} {d : List Sl → Option Out} (h : PS X st (tS S.cls d)) : PS X st (tZ S (lf d)) := ps_to h z_liftS
theorem zss {st : List Stmt} {d : List Sl → Option Out} (h : PSs X st (tS S.cls d)) : PSs X st (tZ S (lf d)) := pss_to h z_liftS
def ySet (i : Nat) (de : SD D) : ZS := fun ρ μ => (de ρ μ).bind fun p => some (.nx (ρ.set i (.val p.1)), p.2)
theorem zs_set {i : Nat} {x : Str} {e : Expr} {de : SD D} {pos' : Pos} (hN : X.N.Nodup) (he : PE X e (zD S de)) (hi : X.N[i]? = some x := by rfl) (hx : Loc X.env.scope x := by first | exact .inl rfl | exact .inr rfl) (hs : swapsWith e (some (.Name x pos')) pos.line X.env = pure false := by rfl) (hf : X.fn x = true ∨ X.env.scope.names.lookup x = some .local := by first | exact .inl rfl | exact .inr rfl | assumption) :
    PS X (.Assign [.Name x pos'] e pos) (tZ S (ySet i de)) :=
  ps_to (ps_set hN hi hx he hs hf) fun E σ H ⟨A0, G0, H0, A, μ, G, ρ, o, μ', x0, en, W, hd, fin⟩ => by
    obtain ⟨⟨d, μ1⟩, h1, hd⟩ := obind hd
    cases hd
    exact ⟨A, μ, H0, G, ρ, d, _, en, W, h1, fun A1 G1 H1 v x1 W1 r1 => fin A1 G1 H1 _ x1.pre x1.g (x0.trans x1) ((en.up x1 W1).put i r1) W1⟩
/-! targets -/
abbrev ZG := D → List Sl → List Cell → Option (List Sl × List Cell)
def tGZ (S : CS) (g : ZG) : TG := fun v σ H Q => ∃ A μ H0 G ρ d ρ' μ', En S.cls A H0 G H σ ρ ∧ Wd S A μ G H ∧ Rp S.cls A G v d ∧ g d ρ μ = some (ρ', μ') ∧ ∀ σ' A' G' H', Ex A G H A' G' H' → En S.cls A' H0 G' H' σ' ρ' → Wd S A' μ' G' H' → Q σ' H'
def tGZs (S : CS) (g : List D → List Sl → List Cell → Option (List Sl × List Cell)) : TGs := fun v σ H Q => ∃ A μ H0 G ρ d ρ' μ', En S.cls A H0 G H σ ρ ∧ Wd S A μ G H ∧ RpAll S.cls A G v d ∧ g d ρ μ = some (ρ', μ') ∧ ∀ σ' A' G' H', Ex A G H A' G' H' → En S.cls A' H0 G' H' σ' ρ' → Wd S A' μ' G' H' → Q σ' H'
def lg (g : D → List Sl → Option (List Sl)) : ZG := fun d ρ μ => (g d ρ).bind fun r => some (r, μ)
theorem zg {t : Expr} {is : List Nat} {g : D → List Sl → Option (List Sl)} (h : PG X t (tG S.cls is g)) : PG X t (tGZ S (lg g)) := pg_to h fun v σ H Q ⟨A, μ, H0, G, ρ, d, ρ', μ', en, W, r, hd, k⟩ => by
  obtain ⟨ρ2, h1, hd⟩ := obind hd
  cases hd
  exact ⟨A, H0, G, ρ, d, ρ', en, W.same, r, h1, fun σ' G' H' x e _ => k σ' A G' H' (.of x) e (W.ext x)⟩
def yAtt (t : Nat) (f : Str) (da : SD D) : ZG := fun d ρ μ => (da ρ μ).bind fun p => (insAt p.2 t p.1).bind fun q => if decide (q.2.length < 100) then some (ρ, p.2.set q.1 (.ins t (putD f d q.2))) else none
theorem zg_att {o : Expr} {da : SD D} {t : Nat} {f : Str} (c : Cls X.K (S.cl t)) (n : NoAttr X.K (S.cl t) f) (ho : PE X o (zD S da))
    (ha : ∀ v, assign (.Attribute o f pos) X.env v = (do { let ov ← holding [v] (eval o X.env); standAt pos.atName; holding [v, ov] (setAttr ov f v); release [v, ov] [] }) := by intro _; rfl) : PG X (.Attribute o f pos) (tGZ S (yAtt t f da)) :=
  pg_to (pg_att ho ha) fun v σ H Q ⟨A, μ, H0, G, ρ, d, ρ', μ', en, W, r, hd, k⟩ => by
    obtain ⟨⟨a, μ1⟩, h1, hd⟩ := obind hd
    obtain ⟨⟨i, fs⟩, h2, hd⟩ := obind hd
    obtain ⟨hz, hd⟩ := oif hd
    cases hd
    refine ⟨A, μ, H0, G, _, a, μ1, en, W, h1, fun A1 G1 H1 x x1 W1 r1 => ?_⟩
    obtain ⟨_, hl, b, dx, us, rfl, gi, g1, g2⟩ := insAt_ok W1 h2 r1
    refine ⟨b, _, dx, us, rfl, g1, c, n, by rw [g2.len]; have := of_decide_eq_true hz; simp only at this; omega, ?_⟩
    obtain ⟨W2, x2⟩ := W1.put (c := .ins t (putD f d fs)) (o := .ins (S.cl t) dx (putF f v us)) gi ⟨dx, _, upd_same, g2.putF (r.up x1.pre x1.g)⟩ hl
    exact k σ A1 G1 _ (x1.trans x2) (en.up (x1.trans x2) W2) W2
def yKey (dd dk : SD D) : ZG := fun v ρ μ => (dd ρ μ).bind fun p => (dk ρ p.2).bind fun q => (keyOf q.1).bind fun k => (dicAt q.2 p.1).bind fun c => if decide (c.2.length < 10000) then some (ρ, q.2.set c.1 (.dic (putK c.2 k q.1 v))) else none
theorem zg_key {a b : Expr} {da db : SD D} (hP : X.prog = S.P) (hw : X.w = S.w) (hu : X.A.units + 64 < cLine) (ha : PE X a (zD S da)) (hb : PE X b (zD S db))
    (hs : ∀ v, assign (.Subscript a b pos) X.env v = (do
      let ov ← holding [v] (eval a X.env)
      let iv ← holding [v, ov] (eval b X.env)
      standAt pos
      holding [v, ov, iv] (setItem ov iv v)
      release [v, ov, iv] []) := by intro _; rfl) : PG X (.Subscript a b pos) (tGZ S (yKey da db)) :=
  pg_to (pg_sub ha hb (set_X hu) hs) fun v σ H Q ⟨A, μ, H0, G, ρ, d, ρ', μ', en, W, r, hd, k⟩ => by
    obtain ⟨⟨a, μ1⟩, h1, hd⟩ := obind hd
    obtain ⟨⟨b, μ2⟩, h2, hd⟩ := obind hd
    obtain ⟨ky, h3, hd⟩ := obind hd
    obtain ⟨⟨i, kvs⟩, h4, hd⟩ := obind hd
    obtain ⟨hz, hd⟩ := oif hd
    cases hd
    refine ⟨A, μ, H0, G, _, a, μ1, en, W, h1, fun A1 G1 H1 x x1 W1 r1 => ⟨A1, μ1, H0, G1, _, b, μ2, en.up x1 W1, W1, h2, fun A2 G2 H2 y x2 W2 r2 => ?_⟩⟩
    have r1' := r1.up x2.pre x2.g
    obtain ⟨k1, k2, ad, rfl⟩ := keyOf_ok h3 r2
    obtain ⟨_, hl, c, xs, rfl, gi, g1, g2⟩ := dicAt_ok W2 h4 r1'
    have x12 := x1.trans x2
    refine ⟨ad, c, xs, ky, rfl, rfl, by rw [hP, hw]; exact g1, g2.keys W2.same, r2.nk W2.same k1, k2, by rw [g2.len]; have := of_decide_eq_true hz; simp only at this; omega, ?_⟩
    obtain ⟨W3, x3⟩ := W2.put (c := .dic (putK kvs ky b d)) (o := dicO S.P S.w c (storedX xs ky ad v)) gi ⟨_, upd_same, g2.put r2 k1 k2 (r.up x12.pre x12.g)⟩ hl
    rw [hP, hw]
    exact k σ A2 G2 _ (x12.trans x3) (en.up (x12.trans x3) W3) W3
def ygnil : List D → List Sl → List Cell → Option (List Sl × List Cell)
  | [], ρ, μ => some (ρ, μ)
  | _, _, _ => none
def ygcons (g : ZG) (gs : List D → List Sl → List Cell → Option (List Sl × List Cell)) : List D → List Sl → List Cell → Option (List Sl × List Cell)
  | d :: ds, ρ, μ => (g d ρ μ).bind fun p => gs ds p.1 p.2
  | [], _, _ => none
theorem zg_nil : PGs X [] (tGZs S ygnil) := pgs_to pgs_nil fun vs σ H Q ⟨A, μ, H0, G, ρ, d, ρ', μ', en, W, r, hd, k⟩ => by
  cases r with
  | nil => cases hd; exact ⟨rfl, k σ A G H .refl en W⟩
  | cons _ _ => cases hd
theorem zg_cons {e : Expr} {es : List Expr} {g : ZG} {gs : List D → List Sl → List Cell → Option (List Sl × List Cell)} (h1 : PG X e (tGZ S g)) (h2 : PGs X es (tGZs S gs))
    (hs : (assignEach (e :: es) X.env).map (·.2) = assign e X.env :: (assignEach es X.env).map (·.2) := by rfl) : PGs X (e :: es) (tGZs S (ygcons g gs)) :=
  pgs_to (pgs_cons h1 h2 hs) fun vs σ H Q ⟨A, μ, H0, G, ρ, ds, ρ', μ', en, W, r, hd, k⟩ => by
    cases r with
    | nil => cases hd
    | cons r1 r2 =>
      obtain ⟨⟨ρ1, μ1⟩, h1, hd⟩ := obind hd
      exact ⟨_, _, rfl, A, μ, H0, G, ρ, _, ρ1, μ1, en, W, r1, h1, fun σ1 A1 G1 H1 x1 en1 W1 => ⟨A1, μ1, H0, G1, ρ1, _, ρ', μ', en1, W1, r2.up x1.pre x1.g, hd, fun σ2 A2 G2 H2 x2 en2 W2 => k σ2 A2 G2 H2 (x1.trans x2) en2 W2⟩⟩
def ygTu (n : Nat) (gs : List D → List Sl → List Cell → Option (List Sl × List Cell)) : ZG := fun d ρ μ => match d with
  | .tup ds => if ds.length == n then gs ds ρ μ else none
  | _ => none
theorem zg_tup {es : List Expr} {k : Nat} {gs : List D → List Sl → List Cell → Option (List Sl × List Cell)} {n : Nat} (hc : X.calm = true) (h : PGs X es (tGZs S gs))
    (hn : (assignEach es X.env).length = n := by rfl) (hst : (assignEach es X.env).findIdx? (·.1) = none := by rfl) : PG X (.Tuple es k pos) (tGZ S (ygTu n gs)) :=
  pg_to (pg_tup hc h hn hst) fun v σ H Q ⟨A, μ, H0, G, ρ, d, ρ', μ', en, W, r, hd, k⟩ => by
    unfold ygTu at hd
    split at hd
    · split at hd
      · rename_i hl
        cases r with
        | tup e ra => exact ⟨_, _, rfl, .of (W.same _ _ e), by rw [ra.len]; exact beq_iff_eq.mp hl, A, μ, H0, G, ρ, _, ρ', μ', en, W, ra, hd, k⟩
      · cases hd
    · cases hd
def yAsg (de : SD D) (g : ZG) : ZS := fun ρ μ => (de ρ μ).bind fun p => (g p.1 ρ p.2).bind fun q => some (.nx q.1, q.2)
theorem zs_asg {tg e : Expr} {de : SD D} {g : ZG} (he : PE X e (zD S de)) (hg : PG X tg (tGZ S g)) (hs : swapsWithSole [tg] e pos.line X.env = pure false := by rfl) (hw : swappedStores [tg] e X.env = pure none := by rfl)
    (h1 : (assignEach [tg] X.env).map (·.2) = [assign tg X.env] := by rfl) : PS X (.Assign [tg] e pos) (tZ S (yAsg de g)) :=
  ps_to (ps_asg he hg hs hw h1) fun E σ H ⟨A0, G0, H0, A, μ, G, ρ, o, μ', x0, en, W, hd, fin⟩ => by
    obtain ⟨⟨d, μ1⟩, h1, hd⟩ := obind hd
    obtain ⟨⟨ρ', μ2⟩, h2, hd⟩ := obind hd
    cases hd
    exact ⟨A, μ, H0, G, ρ, d, μ1, en, W, h1, fun A1 G1 H1 v x1 W1 r1 => ⟨A1, μ1, H0, G1, ρ, d, ρ', _, en.up x1 W1, W1, r1, h2, fun σ2 A2 G2 H2 x2 en2 W2 => fin A2 G2 H2 σ2 (pre_tr x1.pre x2.pre) (x1.g.trans x2.g) ((x0.trans x1).trans x2) en2 W2⟩⟩
/-! flow -/
def yRet (de : SD D) : ZS := fun ρ μ => (de ρ μ).bind fun p => some (.rt p.1, p.2)
theorem zs_ret {e : Expr} {de : SD D} (he : PE X e (zD S de)) : PS X (.Return (some e) pos) (tZ S (yRet de)) :=
  ps_to (ps_ret he) fun E σ H ⟨A0, G0, H0, A, μ, G, ρ, o, μ', x0, en, W, hd, fin⟩ => by
    obtain ⟨⟨d, μ1⟩, h1, hd⟩ := obind hd
    cases hd
    exact ⟨A, μ, H0, G, ρ, d, _, en, W, h1, fun A1 G1 H1 v x1 W1 r1 => fin A1 G1 H1 v (x0.trans x1) W1 r1⟩
def ySeq (d e : ZS) : ZS := fun ρ μ => (d ρ μ).bind fun p => match p.1 with
  | .nx ρ' => e ρ' p.2
  | _ => some p
theorem zs_cons {st : Stmt} {rest : List Stmt} {d e : ZS} (h1 : PS X st (tZ S d)) (h2 : PSs X rest (tZ S e)) : PSs X (st :: rest) (tZ S (ySeq d e)) :=
  pss_to (pss_cons h1 h2) fun E σ H ⟨A0, G0, H0, A, μ, G, ρ, o, μ', x0, en, W, hd, fin⟩ => by
    obtain ⟨⟨o1, μ1⟩, h1, hd⟩ := obind hd
    refine ⟨A0, G0, H0, A, μ, G, ρ, o1, μ1, x0, en, W, h1, ?_⟩
    cases o1 with
    | nx ρ1 => exact fun A1 G1 H1 σ1 p1 s1 x1 en1 W1 => ⟨A0, G0, H0, A1, μ1, G1, ρ1, o, μ', x1, en1, W1, hd, fin.mono p1 s1⟩
    | rt d => cases hd; exact fin
    | bk ρ1 => cases hd; exact fin
    | ct ρ1 => cases hd; exact fin
theorem zs_one {st : Stmt} {d : ZS} (h1 : PS X st (tZ S d)) : PSs X [st] (tZ S d) := pss_one h1
def yIf (c : SD Bool) (d e : ZS) : ZS := fun ρ μ => (c ρ μ).bind fun p => if p.1 then d ρ p.2 else e ρ p.2
theorem zs_if {c : Expr} {a b : List Stmt} {dc : SD Bool} {d e : ZS} (hc : PT X c (zB S dc)) (ha : PSs X a (tZ S d)) (hb : PSs X b (tZ S e)) : PS X (.If c a b pos) (tZ S (yIf dc d e)) :=
  ps_to (ps_if hc ha hb) fun E σ H ⟨A0, G0, H0, A, μ, G, ρ, o, μ', x0, en, W, hd, fin⟩ => by
    obtain ⟨⟨b, μ1⟩, h1, hd⟩ := obind hd
    refine ⟨A, μ, H0, G, ρ, b, μ1, en, W, h1, fun A1 G1 H1 v x1 W1 r1 => ?_⟩
    obtain rfl : v = b := r1
    cases v with
    | true => exact ⟨A0, G0, H0, A1, μ1, G1, ρ, o, μ', x0.trans x1, en.up x1 W1, W1, by simpa using hd, fin.mono x1.pre x1.g⟩
    | false => exact ⟨A0, G0, H0, A1, μ1, G1, ρ, o, μ', x0.trans x1, en.up x1 W1, W1, by simpa using hd, fin.mono x1.pre x1.g⟩
/-- a call whose value is dropped -/
def yDrop (de : SD D) : ZS := fun ρ μ => (de ρ μ).bind fun p => some (.nx ρ, p.2)
theorem z_drop {de : SD D} : ∀ E σ H, tZ S (yDrop de) E σ H → tDrop (zD S de) E σ H := fun E σ H ⟨A0, G0, H0, A, μ, G, ρ, o, μ', x0, en, W, hd, fin⟩ => by
  obtain ⟨⟨d, μ1⟩, h1, hd⟩ := obind hd
  cases hd
  exact ⟨A, μ, H0, G, ρ, d, _, en, W, h1, fun A1 G1 H1 v x1 W1 r1 => fin A1 G1 H1 σ x1.pre x1.g (x0.trans x1) (en.up x1 W1) W1⟩
/-! loops -/
abbrev ZL := List Sl → List Cell → Option (List D × List Cell)
def tIZ (S : CS) (den : ZL) : TI := fun σ H R => ∃ A μ H0 G ρ ds μ1, En S.cls A H0 G H σ ρ ∧ Wd S A μ G H ∧ den ρ μ = some (ds, μ1) ∧ ∀ J A' G' H', Ex A G H A' G' H' → Wd S A' μ1 G' H' → Wk S.cls A' J G' ds → R J H'
theorem zi {tg it : Expr} {d : List Sl → Option (List D)} (h : PI X tg it (tI S.cls d)) : PI X tg it (tIZ S (lf d)) := pi_to h fun σ H R ⟨A, μ, H0, G, ρ, ds, μ1, en, W, hd, k⟩ => by
  obtain ⟨ds', h1, hd⟩ := obind hd
  cases hd
  exact ⟨A, H0, G, ρ, _, en, W.same, h1, fun J G' H' x wk => k J A G' H' (.of x) (W.ext x) wk⟩
def zforD (g : D → List Sl → Option (List Sl)) (body : ZS) : List D → ZS
  | [], ρ, μ => some (.nx ρ, μ)
  | d :: ds, ρ, μ => (g d ρ).bind fun ρ1 => (body ρ1 μ).bind fun p => match p.1 with
    | .nx ρ2 => zforD g body ds ρ2 p.2
    | .ct ρ2 => zforD g body ds ρ2 p.2
    | .bk ρ2 => some (.nx ρ2, p.2)
    | .rt d => some (.rt d, p.2)
def yFor (di : ZL) (g : D → List Sl → Option (List Sl)) (body : ZS) : ZS := fun ρ μ => (di ρ μ).bind fun p => zforD g body p.1 ρ p.2
theorem zs_for {tg iter : Expr} {body : List Stmt} {is : List Nat} {di : ZL} {g : D → List Sl → Option (List Sl)} {db : ZS} (hp : PassesOwn (model X.prog X.w) X.A X.env X.xe) (hc : X.calm = true) (hi : PI X tg iter (tIZ S di)) (hg : PG X tg (tG S.cls is g)) (hb : PSs X body (tZ S db))
    (hs : ∀ x, foldedSetIterable iter X.env x = pure x := by intro _; rfl) : PS X (.For tg iter body [] pos) (tZ S (yFor di g db)) :=
  ps_to (ps_for hp hc hi hg hb hs) fun E σ H ⟨A0, G0, H0, A, μ, G, ρ, o, μ', x0, en, W, hd, fin⟩ => by
    obtain ⟨⟨ds, μ1⟩, h1, hd⟩ := obind hd
    refine ⟨A, μ, H0, G, ρ, ds, μ1, en, W, h1, fun J A1 G1 H1 x1 W1 wk => ?_⟩
    refine ⟨fun i m σ2 H2 => m = ds.length - i ∧ i ≤ ds.length ∧ ∃ A2 μ2 G2 ρ2, (∃ nw, A2 = A1 ++ nw) ∧ Same G1 G2 ∧ Ex A0 G0 H0 A2 G2 H2 ∧ En S.cls A2 H0 G2 H2 σ2 ρ2 ∧ Wd S A2 μ2 G2 H2 ∧ zforD g db (ds.drop i) ρ2 μ2 = some (o, μ'),
      ⟨ds.length, by simp, Nat.zero_le _, A1, μ1, G1, ρ, pre_rf, fun _ _ h => h, x0.trans x1, en.up x1 W1, W1, hd⟩, ?_⟩
    rintro i m σ2 H2 ⟨rfl, hi, A2, μ2, G2, ρ2, p2, s2, x2, en2, W2, hf⟩
    obtain ⟨wstop, wgo⟩ := wk i G2 H2 s2 W2.same
    by_cases lt : i < ds.length
    · have gd : ds[i]? = some ds[i] := List.getElem?_eq_getElem lt
      obtain ⟨go, yl⟩ := wgo _ gd
      rw [List.drop_eq_getElem_cons lt] at hf
      unfold zforD at hf
      obtain ⟨ρ3, g1, hf⟩ := obind hf
      obtain ⟨⟨o3, μ3⟩, b1, hf⟩ := obind hf
      refine .inr ⟨go, fun σ' H' => ∃ A2 μ2 G2 ρ2, (∃ nw, A2 = A1 ++ nw) ∧ Same G1 G2 ∧ Ex A0 G0 H0 A2 G2 H' ∧ En S.cls A2 H0 G2 H' σ' ρ2 ∧ Wd S A2 μ2 G2 H' ∧ zforD g db (ds.drop (i + 1)) ρ2 μ2 = some (o, μ'), fun σ' H' hN => ⟨ds.length - (i + 1), by omega, rfl, lt, hN⟩, fun x H3 hy => ?_⟩
      obtain ⟨G3, x3, r3⟩ := yl x H3 hy
      have X3 := Ex.of (A := A2) x3
      have W3 := W2.ext x3
      refine ⟨A2, H0, G3, ρ2, _, ρ3, en2.up X3 W3, x3.s, r3.up p2 (fun _ _ h => h), g1, fun σ4 G4 H4 x4 en4 _ => ⟨A0, G0, H0, A2, μ2, G4, ρ3, o3, μ3, (x2.trans X3).trans (.of x4), en4, W3.ext x4, b1, ?_⟩⟩
      have s4 : Same G1 G4 := (s2.trans x3.g).trans x4.g
      cases o3 with
      | nx ρ5 => exact fun A5 G5 H5 σ5 p5 s5 x5 en5 W5 => ⟨A5, μ3, G5, ρ5, pre_tr p2 p5, s4.trans s5, x5, en5, W5, hf⟩
      | ct ρ5 => exact fun A5 G5 H5 σ5 p5 s5 x5 en5 W5 => ⟨A5, μ3, G5, ρ5, pre_tr p2 p5, s4.trans s5, x5, en5, W5, hf⟩
      | bk ρ5 => cases hf; exact fun A5 G5 H5 σ5 p5 s5 x5 en5 W5 => fin A5 G5 H5 σ5 (pre_tr x1.pre (pre_tr p2 p5)) ((x1.g.trans s4).trans s5) x5 en5 W5
      | rt d => cases hf; exact fin
    · have ei : i = ds.length := by omega
      subst ei
      rw [List.drop_length] at hf
      cases hf
      exact .inl ⟨wstop rfl, fin A2 G2 H2 σ2 (pre_tr x1.pre p2) (x1.g.trans s2) x2 en2 W2⟩
def zwhileD (c : SD Bool) (body : ZS) : Nat → ZS
  | 0, _, _ => none
  | n + 1, ρ, μ => (c ρ μ).bind fun q => if q.1 then (body ρ q.2).bind fun p => match p.1 with
      | .nx ρ2 => zwhileD c body n ρ2 p.2
      | .ct ρ2 => zwhileD c body n ρ2 p.2
      | .bk ρ2 => some (.nx ρ2, p.2)
      | .rt d => some (.rt d, p.2)
    else some (.nx ρ, q.2)
theorem zs_while {c : Expr} {body : List Stmt} {dc : SD Bool} {db : ZS} (n : Nat) (hp : PassesOwn (model X.prog X.w) X.A X.env X.xe) (hc : PT X c (zB S dc)) (hb : PSs X body (tZ S db)) : PS X (.While c body [] pos) (tZ S (zwhileD dc db n)) :=
  ps_to (ps_while hp hc hb) fun E σ H ⟨A0, G0, H0, A, μ, G, ρ, o, μ', x0, en, W, hd, fin⟩ => by
    refine ⟨fun m σ2 H2 => ∃ A2 μ2 G2 ρ2, (∃ nw, A2 = A ++ nw) ∧ Same G G2 ∧ Ex A0 G0 H0 A2 G2 H2 ∧ En S.cls A2 H0 G2 H2 σ2 ρ2 ∧ Wd S A2 μ2 G2 H2 ∧ zwhileD dc db m ρ2 μ2 = some (o, μ'), ⟨n, A, μ, G, ρ, pre_rf, fun _ _ h => h, x0, en, W, hd⟩, ?_⟩
    rintro m σ2 H2 ⟨A2, μ2, G2, ρ2, p2, s2, x2, en2, W2, hf⟩
    cases m with
    | zero => cases hf
    | succ m =>
      unfold zwhileD at hf
      obtain ⟨⟨b, μ3⟩, c1, hf⟩ := obind hf
      refine ⟨A2, μ2, H0, G2, ρ2, b, μ3, en2, W2, c1, fun A3 G3 H3 v x3 W3 r3 => ?_⟩
      obtain rfl : v = b := r3
      cases v with
      | true =>
        obtain ⟨⟨o3, μ4⟩, b1, hf⟩ := obind (by simpa using hf)
        rw [if_pos rfl]
        refine ⟨fun σ' H' => ∃ A2 μ2 G2 ρ2, (∃ nw, A2 = A ++ nw) ∧ Same G G2 ∧ Ex A0 G0 H0 A2 G2 H' ∧ En S.cls A2 H0 G2 H' σ' ρ2 ∧ Wd S A2 μ2 G2 H' ∧ zwhileD dc db m ρ2 μ2 = some (o, μ'), fun σ' H' hN => ⟨m, Nat.lt_succ_self _, hN⟩, A0, G0, H0, A3, μ3, G3, ρ2, o3, μ4, x2.trans x3, en2.up x3 W3, W3, b1, ?_⟩
        have s4 : Same G G3 := s2.trans x3.g
        have p4 := pre_tr p2 x3.pre
        cases o3 with
        | nx ρ5 => exact fun A5 G5 H5 σ5 p5 s5 x5 en5 W5 => ⟨A5, μ4, G5, ρ5, pre_tr p4 p5, s4.trans s5, x5, en5, W5, hf⟩
        | ct ρ5 => exact fun A5 G5 H5 σ5 p5 s5 x5 en5 W5 => ⟨A5, μ4, G5, ρ5, pre_tr p4 p5, s4.trans s5, x5, en5, W5, hf⟩
        | bk ρ5 => cases hf; exact fun A5 G5 H5 σ5 p5 s5 x5 en5 W5 => fin A5 G5 H5 σ5 (pre_tr p4 p5) (s4.trans s5) x5 en5 W5
        | rt d => cases hf; exact fin
      | false =>
        have : o = .nx ρ2 ∧ μ' = μ3 := by simpa [eq_comm] using hf
        obtain ⟨rfl, rfl⟩ := this
        rw [if_neg Bool.false_ne_true]
        exact fin A3 G3 H3 σ2 (pre_tr p2 x3.pre) (s2.trans x3.g) (x2.trans x3) (en2.up x3 W3) W3
end
/-! a def -/
def runS (np n : Nat) (den : ZS) : FnS := fun ds μ => if ds.length == np then (den (start0 n ds) μ).bind fun p => match p.1 with
    | .rt d => some (d, p.2)
    | .nx _ => some (.non, p.2)
    | _ => none
  else none
section
variable {P : Program} {w : World} {K : PySem.W.Frag} {mg : Str → Option Value} {base : Heap}
theorem fnS_den {Z : CS} {x qual : Str} {st : Stmt} {f : Addr} {fd : FuncData} {N ps : List Str} {k : Nat} {den : ZS} (F : Fun K x qual st f fd) (S : FnScope N ps (defScope st))
    (hbody : ∀ (cdv : Value) (A : Around) (outer : List Env) (s : Shared) (H : Hp) (E : XK), Room k (A.deeper (envOfC qual (defScope st) s.heap.objs.size f cdv)) →
      PSs (cxOf CX0 P w K mg base N qual (defScope st) f cdv A outer s H E).nox (defBody st) (tZ Z den)) : FnOk P w K mg base CX0 (k + 1) f fd ps (SpS Z (runS ps.length N.length den)) := by
  have hpl : ps.length ≤ N.length := by have := congrArg List.length S.pre; rw [List.length_take] at this; omega
  refine F.ok S (fun vs H Q E h => ?_) (fun cdv A outer s H vs Q E hr h => ⟨_, hbody cdv A outer s H E hr, ?_⟩)
  · obtain ⟨A, μ, G, ds, d, μ', W, r, hd, _⟩ := h
    unfold runS at hd
    split at hd
    · rename_i hl
      rw [r.len]
      exact beq_iff_eq.mp hl
    · cases hd
  · obtain ⟨A, μ, G, ds, d, μ', W, r, hd, fin⟩ := h
    unfold runS at hd
    split at hd
    · rename_i hl
      obtain ⟨⟨o, μ1⟩, h1, hd⟩ := obind hd
      refine ⟨A, G, H, A, μ, G, _, o, μ1, .refl, start_en W.cel r (by rw [r.len, beq_iff_eq.mp hl]; exact hpl), W, h1, ?_⟩
      cases o with
      | rt d' => cases hd; exact fun A1 G1 H1 v x1 W1 r1 => fin A1 G1 H1 v x1 W1 r1
      | nx ρ => cases hd; exact fun A1 G1 H1 σ1 p1 s1 x1 en1 W1 => fin A1 G1 H1 .non x1 W1 .non
      | bk ρ => cases hd
      | ct ρ => cases hd
    · cases hd
end
end DN

set_option maxHeartbeats 1000000
/-! lists as cells; comprehensions whose element changes cells; own operators of Numbers -/
namespace DN
open PySem PySem.Spec PyProof.Rows L2 KG
def lstAt (μ : List Cell) : D → Option (Nat × List D)
  | .ref i => match μ[i]? with
    | some (.lst ds) => some (i, ds)
    | _ => none
  | _ => none
theorem lstAt_ok {S : CS} {A : List Addr} {μ : List Cell} {G H : Hp} (W : Wd S A μ G H) {i : Nat} {d : D} {ds : List D} {x : V} (h : lstAt μ d = some (i, ds)) (r : Rp S.cls A G x d) :
    d = .ref i ∧ i < μ.length ∧ ∃ a vs, x = .ref a ∧ A[i]? = some a ∧ H a = some (.lst vs) ∧ RpAll S.cls A G vs ds := by
  unfold lstAt at h
  split at h
  · split at h
    · rename_i j _ gs e
      cases h
      cases r with
      | ref hi =>
        rename_i a
        obtain ⟨n, vs, h1, h2⟩ := W.cell _ a _ hi e
        exact ⟨rfl, (List.getElem?_eq_some_iff.mp e).1, a, vs, rfl, hi, h1, h2⟩
    · cases h
  · cases h
section
variable {X : Cx} {S : CS} {pos : Pos}
/-- [..] as a cell -/
def zLstC (das : SD (List D)) : SD D := fun ρ μ => (das ρ μ).bind fun p => if decide (p.1.length ≤ szB) then some (.ref p.2.length, p.2 ++ [.lst p.1]) else none
theorem zn_lstC {es : List Expr} {das : SD (List D)} (h : PA X es (zA S das)) : PE X (.List es pos) (zD S (zLstC das)) :=
  pe_to (pe_lst h) fun σ H Q ⟨A, μ, H0, G, ρ, d, μ', e, W, hd, k⟩ => by
    obtain ⟨⟨ds, μ1⟩, h1, hd⟩ := obind hd
    obtain ⟨hz, hd⟩ := oif hd
    cases hd
    refine ⟨A, μ, H0, G, ρ, ds, _, e, W, h1, fun A1 G1 H1 xs x1 W1 r1 => ⟨by rw [r1.len]; exact sz_ok hz, fun p np => ?_⟩⟩
    obtain ⟨W2, x2⟩ := W1.add (H' := upd H1 p (.lst xs)) (c := .lst ds) np (same_new np _) ⟨xs, upd_same, r1.up ⟨[p], rfl⟩ (fun _ _ h => h)⟩
    refine k _ G1 _ _ (x1.trans x2) W2 (.ref ?_)
    rw [← W1.len, List.getElem?_append_right (Nat.le_refl _), Nat.sub_self]
    rfl
/-- xs.pop() -/
def zPopC (d : SD D) : SD D := fun ρ μ => (d ρ μ).bind fun p => (lstAt p.2 p.1).bind fun c => (c.2[c.2.length - 1]?).bind fun x => some (x, p.2.set c.1 (.lst c.2.dropLast))
theorem zn_popC {o e : Expr} {d : SD D} (hpe : ∀ {to : TE}, PE X o to → PE X e (tBM0 X.K "list" rPop to)) (ho : PE X o (zD S d)) : PE X e (zD S (zPopC d)) :=
  pe_to (hpe ho) fun σ H Q ⟨A, μ, H0, G, ρ, z, μ', en, W, hd, k⟩ => by
    obtain ⟨⟨a, μ1⟩, h1, hd⟩ := obind hd
    obtain ⟨⟨i, ds⟩, h2, hd⟩ := obind hd
    obtain ⟨x, h3, hd⟩ := obind hd
    cases hd
    refine ⟨A, μ, H0, G, ρ, a, μ1, en, W, h1, fun A1 G1 H1 v x1 W1 r1 => ?_⟩
    obtain ⟨_, hl, b, vs, rfl, gi, g1, g2⟩ := lstAt_ok W1 h2 r1
    obtain ⟨y, q1, q2⟩ := g2.get h3
    rw [← g2.len] at q1
    refine ⟨.inl ⟨rfl, vs, .of g1⟩, b, vs, y, rfl, rfl, g1, q1, ?_⟩
    obtain ⟨W2, x2⟩ := W1.put (c := .lst ds.dropLast) (o := .lst vs.dropLast) gi ⟨_, upd_same, g2.dropLast⟩ hl
    exact k A1 G1 _ y (x1.trans x2) W2 q2
/-- xs.append(e) -/
def zAppC (d : SD D) (e : SD D) : SD D := fun ρ μ => (d ρ μ).bind fun p => (lstAt p.2 p.1).bind fun _ => (e ρ p.2).bind fun q => (lstAt q.2 p.1).bind fun c => if decide (c.2.length ≤ szB) then some (.non, q.2.set c.1 (.lst (c.2 ++ [q.1]))) else none
theorem zn_appC {o a e : Expr} {d da : SD D} (hpe : ∀ {to : TE} {t : TA}, PE X o to → PA X [a] t → PE X e (tBM X.K "list" rAppend to t)) (ho : PE X o (zD S d)) (ha : PE X a (zD S da))
    (hst : starEach [a] X.env = (false, eval a X.env) :: starEach [] X.env := by rfl) : PE X e (zD S (zAppC d da)) :=
  pe_to (hpe ho (pa_cons ha pa_nil hst)) fun σ H Q ⟨A, μ, H0, G, ρ, z, μ', en, W, hd, k⟩ => by
    obtain ⟨⟨a, μ1⟩, h1, hd⟩ := obind hd
    obtain ⟨⟨i0, ds0⟩, h2, hd⟩ := obind hd
    obtain ⟨⟨y, μ2⟩, h3, hd⟩ := obind hd
    obtain ⟨⟨i, ds⟩, h4, hd⟩ := obind hd
    obtain ⟨hz, hd⟩ := oif hd
    cases hd
    refine ⟨A, μ, H0, G, ρ, a, μ1, en, W, h1, fun A1 G1 H1 v x1 W1 r1 => ?_⟩
    obtain ⟨_, _, b, vs0, e0, _, g01, _⟩ := lstAt_ok W1 h2 r1
    refine ⟨by subst e0; exact .inl ⟨rfl, vs0, .of g01⟩, A1, μ1, H0, G1, ρ, y, μ2, en.up x1 W1, W1, h3, fun A2 G2 H2 u x2 W2 r2 => ?_⟩
    obtain ⟨_, hl, b', vs, eb, gi, g1, g2⟩ := lstAt_ok W2 h4 (r1.up x2.pre x2.g)
    refine ⟨b', vs, u, eb, rfl, g1, by rw [g2.len]; exact sz_lt hz, ?_⟩
    obtain ⟨W3, x3⟩ := W2.put (c := .lst (ds ++ [y])) (o := .lst (vs ++ [u])) gi ⟨_, upd_same, g2.append (.cons r2 .nil)⟩ hl
    exact k A2 G2 _ .non ((x1.trans x2).trans x3) W3 .non
/-- xs[i] of a cell -/
def zIxC (da db : SD D) : SD D := fun ρ μ => (da ρ μ).bind fun p => (db ρ p.2).bind fun q => (lstAt q.2 p.1).bind fun c => (fIx (.lst c.2) q.1).bind fun d => some (d, q.2)
theorem zn_ixC {a b : Expr} {da db : SD D} (ha : PE X a (zD S da)) (hb : PE X b (zD S db)) (hs : PlainIx b) : PE X (.Subscript a b pos) (zD S (zIxC da db)) :=
  pe_to (pe_ix ix_list ha hb hs) fun σ H Q ⟨A, μ, H0, G, ρ, d, μ', en, W, hd, k⟩ => by
    obtain ⟨⟨a, μ1⟩, h1, hd⟩ := obind hd
    obtain ⟨⟨b, μ2⟩, h2, hd⟩ := obind hd
    obtain ⟨⟨i, ds⟩, h3, hd⟩ := obind hd
    obtain ⟨x, h4, hd⟩ := obind hd
    cases hd
    refine ⟨A, μ, H0, G, ρ, a, μ1, en, W, h1, fun A1 G1 H1 v x1 W1 r1 => ⟨A1, μ1, H0, G1, ρ, b, _, en.up x1 W1, W1, h2, fun A2 G2 H2 y x2 W2 r2 => ?_⟩⟩
    obtain ⟨_, hl, c, vs, rfl, gi, g1, g2⟩ := lstAt_ok W2 h3 (r1.up x2.pre x2.g)
    cases b with
    | int n =>
      cases r2
      obtain ⟨u, q1, q2⟩ := at_rp g2 (show atI ds n = some _ from h4)
      exact ⟨c, vs, _, u, rfl, rfl, .of g1, q1, k A2 G2 H2 u (x1.trans x2) W2 q2⟩
    | _ => cases h4
/-- slices, backwards -/
def zSl (de : SD D) (dl dh : SD (Option Int)) : SD D := fun ρ μ => (de ρ μ).bind fun p => (dl ρ p.2).bind fun q => (dh ρ q.2).bind fun r => (fSl p.1 q.1 r.1).bind fun d => some (d, r.2)
def zp1 (d : SD D) : SD (Option Int) := fun ρ μ => (d ρ μ).bind fun p => (asI p.1).bind fun i => some (i, p.2)
theorem zo_some {e : Expr} {d : SD D} (h : PE X e (zD S d)) : PO X (some e) (zP S (zp1 d)) := po_to (po_some h) fun σ H Q ⟨A, μ, H0, G, ρ, z, μ', en, W, hd, k⟩ => by
  obtain ⟨⟨a, μ1⟩, h1, hd⟩ := obind hd
  obtain ⟨i, h2, hd⟩ := obind hd
  cases hd
  refine ⟨A, μ, H0, G, ρ, a, _, en, W, h1, fun A1 G1 H1 x x1 W1 r1 => ?_⟩
  change asI a = _ at h2
  unfold asI at h2
  split at h2
  · cases h2
    cases r1
    exact ⟨_, rfl, k A1 G1 H1 _ x1 W1 rfl⟩
  · cases h2
theorem zn_slice {e : Expr} {lo hi : Option Expr} {p2 : Pos} {de : SD D} {dl dh : SD (Option Int)} (he : PE X e (zD S de)) (hl : PO X lo (zP S dl)) (hi' : PO X hi (zP S dh)) : PE X (.Subscript e (.Slice lo hi none p2) pos) (zD S (zSl de dl dh)) :=
  pe_to (pe_slice (r := rSlB X.K) (sl_tupA.or sl_list) he hl hi') fun σ H Q ⟨A, μ, H0, G, ρ, z, μ', en, W, hd, k⟩ => by
    obtain ⟨⟨a, μ1⟩, h1, hd⟩ := obind hd
    obtain ⟨⟨l, μ2⟩, h2, hd⟩ := obind hd
    obtain ⟨⟨u, μ3⟩, h3, hd⟩ := obind hd
    obtain ⟨d, h4, hd⟩ := obind hd
    obtain ⟨rfl, rfl⟩ : d = z ∧ μ3 = μ' := by cases hd; exact ⟨rfl, rfl⟩
    clear hd
    refine ⟨A, μ, H0, G, ρ, a, μ1, en, W, h1, fun A1 G1 H1 x x1 W1 r1 => ⟨A1, μ1, H0, G1, ρ, l, μ2, en.up x1 W1, W1, h2, fun A2 G2 H2 l' x2 W2 el => ⟨A2, μ2, H0, G2, ρ, u, _, (en.up x1 W1).up x2 W2, W2, h3, fun A3 G3 H3 u' x3 W3 eu => ?_⟩⟩⟩
    subst el
    subst eu
    have r3 := (r1.up x2.pre x2.g).up x3.pre x3.g
    have X3 := (x1.trans x2).trans x3
    change fSl a l' u' = some d at h4
    cases a with
    | tup ds =>
      obtain rfl : D.tup (cutD ds l' u') = d := Option.some.inj h4
      cases r3 with
      | @tup _ vs _ ea ra =>
        refine .inl ⟨_, _, rfl, .of (W3.same _ _ ea), fun z => k _ _ _ _ X3 W3 ?_, fun _ p np => ?_⟩
        · rw [ra.len] at z
          have hc : cutD ds l' u' = ds := by
            unfold cutD
            rw [z.1, z.2, List.drop_zero, Nat.sub_zero, List.take_length]
          rw [hc]
          exact .tup ea ra
        · have x4 := Ext.new W3.same np (.tup (cutV vs l' u'))
          exact k _ _ _ _ (X3.trans (.of x4)) (W3.ext x4) (.tup upd_same ((cut_rp ra l' u').mono (same_new (none_of W3.same np) _)))
    | lst ds =>
      obtain rfl : D.lst (cutD ds l' u') = d := Option.some.inj h4
      cases r3 with
      | @lst _ vs _ ea ra =>
        refine .inr ⟨_, _, rfl, .of (W3.same _ _ ea), fun p np => ?_⟩
        have x4 := Ext.new W3.same np (.lst (cutV vs l' u'))
        exact k _ _ _ _ (X3.trans (.of x4)) (W3.ext x4) (.lst upd_same ((cut_rp ra l' u').mono (same_new (none_of W3.same np) _)))
    | _ => cases h4
theorem zn_back {e : Expr} {de : SD D} {k : Nat} {p1 p2 p3 : Pos} (he : PE X e (zD S de)) : PE X (.Subscript e (.Slice none none (some (.UnaryOp .USub (.Constant (.int 1) k p1) p2)) p3) pos) (zD S (z1 fBack de)) :=
  pe_to (pe_revL he) fun σ H Q ⟨A, μ, H0, G, ρ, z, μ', en, W, hd, k⟩ => by
    obtain ⟨⟨a, μ1⟩, h1, hd⟩ := obind hd
    obtain ⟨d, h2, hd⟩ := obind hd
    obtain ⟨rfl, rfl⟩ : d = z ∧ μ1 = μ' := by cases hd; exact ⟨rfl, rfl⟩
    change fBack a = some d at h2
    unfold fBack at h2
    split at h2
    · cases h2
      refine ⟨A, μ, H0, G, ρ, _, _, en, W, h1, fun A1 G1 H1 x x1 W1 r1 => ?_⟩
      cases r1 with
      | @lst _ vs ds e r =>
        refine ⟨_, _, rfl, .of (W1.same _ _ e), fun p np => ?_⟩
        have x2 := Ext.new W1.same np (.lst vs.reverse)
        exact k _ _ _ _ (x1.trans (.of x2)) (W1.ext x2) (.lst upd_same (r.reverse.mono (same_new (none_of W1.same np) _)))
    · cases h2
/-! comprehensions whose element changes cells -/
theorem Wd.updN {A : List Addr} {μ : List Cell} {G H : Hp} {x : Addr} {o : HO} (W : Wd S A μ G H) (n : G x = none) (na : x ∉ A) : Wd S A μ G (upd H x o) :=
  ⟨fun b u q => by rw [upd_ne (fun z => by rw [z, n] at q; cases q)]; exact W.same _ _ q, W.len, W.nd, fun i a c h1 h2 => by
    obtain ⟨n', ok⟩ := W.cell i a c h1 h2
    exact ⟨n', ok.up pre_rf (fun _ _ h => h) (upd_ne fun z => na (z ▸ List.mem_of_getElem? h1))⟩⟩
def zlcD (g : D → List Sl → Option (List Sl)) (te : SD D) (ρ : List Sl) : List D → List Cell → Option (List D × List Cell)
  | [], μ => some ([], μ)
  | d :: ds, μ => (g d ρ).bind fun ρ1 => (te ρ1 μ).bind fun p => (zlcD g te ρ ds p.2).bind fun r => some (p.1 :: r.1, r.2)
def zLc (di : ZL) (g : D → List Sl → Option (List Sl)) (te : SD D) (vs : List Nat) : SD D := fun ρ μ =>
  (di ρ μ).bind fun p => if decide (p.1.length ≤ szB) then (zlcD g te (wipeD ρ vs) p.1 p.2).bind fun r => some (.lst r.1, r.2) else none
theorem zlc_ok {is vs : List Nat} {di : ZL} {g : D → List Sl → Option (List Sl)} {te : SD D} (hv : ∀ i ∈ is, i ∈ vs) :
    ∀ σ H Q, zD S (zLc di g te vs) σ H Q → tLc (tIZ S di) (tG S.cls is g) (tB S.cls bYes) (zD S te) vs σ H Q := fun σ H Q ⟨A, μ, H0, G, ρ, d, μ', en, W, hd, k⟩ => by
  obtain ⟨⟨ds, μ1⟩, h1, hd⟩ := obind hd
  split at hd
  · rename_i hz
    obtain ⟨⟨r, μ2⟩, h2, hd⟩ := obind hd
    obtain ⟨rfl, rfl⟩ : D.lst r = d ∧ μ2 = μ' := by cases hd; exact ⟨rfl, rfl⟩
    refine ⟨A, μ, H0, G, ρ, ds, μ1, en, W, h1, fun J A1 G1 H1 x1 W1 wk Dl nD => ?_⟩
    have en1 := en.up x1 W1
    have ng : G1 Dl = none := none_of W1.same nD
    have nA : Dl ∉ A1 := fun z => by
      obtain ⟨⟨o, k1⟩, _⟩ := W1.cel _ z
      rw [nD] at k1; cases k1
    refine ⟨fun i m H2 => m = ds.length - i ∧ i ≤ ds.length ∧ ∃ A2 μ3 G2 ys rs rest, Ex A1 G1 H1 A2 G2 H2 ∧ Wd S A2 μ3 G2 H2 ∧ Dl ∉ A2 ∧ G2 Dl = none ∧ H2 Dl = some (.lst ys) ∧ RpAll S.cls A2 G2 ys rs ∧ rs.length ≤ i ∧ zlcD g te (wipeD ρ vs) (ds.drop i) μ3 = some (rest, μ2) ∧ rs ++ rest = r,
      ⟨ds.length, by simp, Nat.zero_le _, A1, μ1, G1, [], [], r, .of (.lay W1.same nD _), W1.updN ng nA, nA, ng, upd_same, .nil, Nat.le_refl _, h2, rfl⟩, ?_⟩
    rintro i m H2 ⟨rfl, hi, A2, μ3, G2, ys, rs, rest, x2, W2, nA2, n2, e2, r2, hrs, hl, happ⟩
    obtain ⟨wstop, wgo⟩ := wk i G2 H2 x2.g W2.same
    by_cases lt : i < ds.length
    · have gd : ds[i]? = some ds[i] := List.getElem?_eq_getElem lt
      obtain ⟨go, yl⟩ := wgo _ gd
      rw [List.drop_eq_getElem_cons lt] at hl
      unfold zlcD at hl
      obtain ⟨ρ1, g1, hl⟩ := obind hl
      obtain ⟨⟨y, μ4⟩, t1, hl⟩ := obind hl
      obtain ⟨⟨rest', μ5⟩, t3, hl⟩ := obind hl
      obtain ⟨hr, hm⟩ : y :: rest' = rest ∧ μ2 = μ5 := by cases hl; exact ⟨rfl, rfl⟩
      subst hr
      subst hm
      refine .inr ⟨go, fun H' => ∃ A2 μ3 G2 ys rs rest, Ex A1 G1 H1 A2 G2 H' ∧ Wd S A2 μ3 G2 H' ∧ Dl ∉ A2 ∧ G2 Dl = none ∧ H' Dl = some (.lst ys) ∧ RpAll S.cls A2 G2 ys rs ∧ rs.length ≤ i + 1 ∧ zlcD g te (wipeD ρ vs) (ds.drop (i + 1)) μ3 = some (rest, μ2) ∧ rs ++ rest = r,
        fun H' hN => ⟨ds.length - (i + 1), by omega, rfl, lt, hN⟩, fun x H3 hy => ?_⟩
      obtain ⟨G3, x3, r3⟩ := yl x H3 hy
      have W3 := W2.ext x3
      have en3 : En S.cls A2 H0 G3 H3 (wipe σ vs) (wipeD ρ vs) := ((en1.up x2 W2).ext x3).wipe vs
      refine ⟨A2, H0, G3, _, _, ρ1, en3, x3.s, r3.up x2.pre (fun _ _ h => h), g1, fun σ4 G4 H4 x4 en4 w4 => ⟨by rw [w4 vs hv, wipe_idem], A2, H0, G4, ρ1, true, en4, x4.s, rfl, fun G5 H5 v x5 hv5 => ?_⟩⟩
      obtain rfl : v = true := hv5
      rw [if_pos rfl]
      have x345 := (x3.trans x4).trans x5
      have W5 := W2.ext x345
      refine ⟨A2, μ3, H0, G5, ρ1, y, μ4, en4.ext x5, W5, t1, fun A6 G6 H6 yv x6 W6 r6 => ?_⟩
      have e5 : H5 Dl = some (.lst ys) := x345.h _ _ e2
      have n5 : G5 Dl = none := x345.f _ _ e2 n2
      have nA6 : Dl ∉ A6 := fun z => by
        obtain ⟨nw, q1, q2⟩ := x6.a
        rw [q1] at z
        rcases List.mem_append.mp z with z | z
        · exact nA2 z
        · rw [q2 _ z] at e5; cases e5
      have e6 : H6 Dl = some (.lst ys) := x6.h _ _ nA2 e5
      have n6 : G6 Dl = none := x6.f _ _ e5 n5
      have X6 := (x2.trans (.of x345)).trans x6
      have hlen : ys.length < sizeLine := by
        rw [r2.len]
        have hz' : ds.length ≤ szB := of_decide_eq_true hz
        exact sz_lt (decide_eq_true (show rs.length ≤ szB by omega))
      refine ⟨ys, e6, hlen, A6, μ4, G6, ys ++ [yv], rs ++ [y], rest', ⟨X6.a, X6.g, fun b o nb q => ?_, X6.f, fun b o q => ?_⟩, W6.updN n6 nA6, nA6, n6, upd_same, (((r2.mono x345.g).up x6.pre x6.g).append (.cons r6 .nil)), ?_, t3, ?_⟩
      · rw [upd_ne (ne_of_none q nD)]; exact X6.h _ _ nb q
      · rw [upd_ne (ne_of_none q nD)]; exact X6.l _ _ q
      · rw [List.length_append, List.length_singleton]; omega
      · rw [List.append_assoc]; exact happ
    · have ei : i = ds.length := by omega
      subst ei
      rw [List.drop_length] at hl
      cases hl
      rw [List.append_nil] at happ
      subst happ
      have sg : Same G2 (upd G2 Dl (.lst ys)) := same_new n2 _
      refine .inl ⟨wstop rfl, k A2 (upd G2 Dl (.lst ys)) H2 _ (x1.trans ⟨x2.a, x2.g.trans sg, x2.h, fun b o q q' => ?_, x2.l⟩) ⟨fun b o q => ?_, W2.len, W2.nd, fun j a c q1 q2 => ?_⟩ (.lst upd_same (r2.mono sg))⟩
      · rw [upd_ne (ne_of_none q nD)]; exact x2.f _ _ q q'
      · by_cases z : b = Dl
        · subst z; rw [upd_same] at q; cases q; exact e2
        · rw [upd_ne z] at q; exact W2.same _ _ q
      · obtain ⟨n', ok⟩ := W2.cell j a c q1 q2
        refine ⟨?_, ok.up pre_rf sg rfl⟩
        rw [upd_ne (fun z => by subst z; exact nA2 (List.mem_of_getElem? q1))]; exact n'
  · cases hd
theorem zn_lc {elt tg iter : Expr} {scope : Scope} {own : List (Str × Nat)} {is : List Nat} {di : ZL} {g : D → List Sl → Option (List Sl)} {te : SD D} (hc : X.calm = true) (hN : X.N.Nodup) (hi : PI X tg iter (tIZ S di)) (ok : BlkOk X.N X.env.scope scope own)
    (hg : ∀ (s : Shared) (H : Hp) (A : Addr) (cl : List (Str × Addr)) (fp : List Addr), PG (X.blk s H scope (compEnvC scope cl A X.env) fp) tg (tG S.cls is g))
    (he : ∀ (s : Shared) (H : Hp) (A : Addr) (cl : List (Str × Addr)) (fp : List Addr), PE (X.blk s H scope (compEnvC scope cl A X.env) fp) elt (zD S te)) (hv : ∀ i ∈ is, i ∈ own.map (·.2) := by decide) (hs : ∀ x, foldedSetIterable iter X.env x = pure x := by intro _; rfl) :
    PE X (.ListComp elt [⟨tg, iter, [], 0⟩] scope pos) (zD S (zLc di g te (own.map (·.2)))) :=
  pe_to (pe_lc hc hN hi ok hg (fun _ _ _ _ _ => dts_nil) he hs) (zlc_ok hv)
end
end DN

set_option maxHeartbeats 1000000
/-! Numbers: own operators, isinstance, made -/
namespace DN
open PySem PySem.Spec PyProof.Rows L2 KG
theorem cmpBack_of {Q : Value → Shared → Prop} {v : Value} {s : Shared} (n : v ≠ .notImplemented) (q : Q v s) : PySem.W.CmpBack Q v s := by
  unfold PySem.W.CmpBack
  split
  · exact n rfl
  · exact q
/-- nothing that stands for it is NotImplemented -/
def Plain (v : V) : Prop := ∀ u, RelV v u → u ≠ Value.notImplemented
theorem plain_rp {C : Addr} {A : List Addr} {G : Hp} {v : V} {d : D} (r : Rp C A G v d) : Plain v := by
  intro u h e
  subst e
  cases r with
  | non => cases (show Value.notImplemented = Value.none from h)
  | bl b => cases (show Value.notImplemented = Value.bool b from h)
  | int i => obtain ⟨t, q⟩ := (show ∃ t, Value.notImplemented = Value.int i t from h); cases q
  | str x => obtain ⟨t, q⟩ := (show ∃ t, Value.notImplemented = Value.str x t from h); cases q
  | tup _ _ => cases (show Value.notImplemented = Value.ref _ from h)
  | lst _ _ => cases (show Value.notImplemented = Value.ref _ from h)
  | num _ _ _ => cases (show Value.notImplemented = Value.ref _ from h)
  | ref _ => cases (show Value.notImplemented = Value.ref _ from h)
/-- the class's own method m, as an operator -/
structure OpM (K : PySem.W.Frag) (C : Addr) (m : Str) (f : Addr) : Prop where
  at_ : PySem.W.findIn K (.ref C) m = some (some (.ref f))
  fn : PySem.W.isFn K (.ref f) = true
section
variable {X : Cx} {CX : CXT} {C f : Addr} {fd : FuncData} {ps : List Str} {k : Nat} {sp : Sp} {E : XK}
def rOwn (C : Addr) (sp : Sp) (E : XK) : R2 := fun x y H Q => ∃ a b dx dy fs gs, x = .ref a ∧ y = .ref b ∧ H a = some (.ins C dx fs) ∧ H b = some (.ins C dy gs) ∧ sp [.ref a, .ref b] H (fun v H' => Plain v ∧ Q v H') E
theorem run_own {pins : List (Addr × Obj)} {s : Shared} {σ : L2.St} {H : Hp} {Q : VK} {us : List Value} {vs : List V} (F : FnOk X.prog X.w X.K X.mg X.base CX k f fd ps sp) (hr : Room k X.A) (hb : Binds X.K fd ps []) (hx : Passes CX X E)
    (I : Inv X pins σ H s) (r : Vals vs us) (h : sp vs H (fun v H' => Plain v ∧ Q v H') E) : wpAny (model X.prog X.w) X.A (call (.ref f) us) (PySem.W.CmpBack (EP X pins σ Q)) X.xe s := by
  have := run_fn (Q := fun v H' => Plain v ∧ Q v H') F hr hb .nil hx I r (by rw [List.append_nil]; exact h)
  refine wpAny_mono this (fun u s' hq => ?_) fun _ _ e => e
  obtain ⟨v, H', I', rv, pl, q⟩ := hq
  exact cmpBack_of (pl u rv) ⟨v, H', I', rv, q⟩
theorem op_own {op : Operator} (F : FnOk X.prog X.w X.K X.mg X.base CX k f fd ps sp) (hr : Room k X.A) (hc : PySem.W.selfFirst X.K C = true) (hm : OpM X.K C (PySem.dunder op.info.2) f) (hb : Binds X.K fd ps []) (hx : Passes CX X E) : OpR X (binaryOp op) (rOwn C sp E) := by
  intro pins s σ H x y v u Q I rx ry h
  obtain ⟨a, b, dx, dy, fs, gs, rfl, rfl, ha, hb', hs⟩ := h
  cases rx
  cases ry
  obtain ⟨mA, J, _⟩ := ins_get I.hok ha
  obtain ⟨mB, J', _⟩ := ins_get I.hok hb'
  obtain ⟨od, J, _⟩ := J.look
  obtain ⟨od', J', _⟩ := J'.look
  obtain ⟨m, hF⟩ := I.fr
  exact PySem.W.binop_K hF I.ok.mod.kin J J'.type hc hm.at_ hm.fn (run_own F hr hb hx I (vs := [V.ref a, V.ref b]) (us := [Value.ref a, Value.ref b]) (.cons rfl (.cons rfl .nil)) hs)
theorem cmp_own {op : CmpOp} (hop : compareOp op = richCompare op) (F : FnOk X.prog X.w X.K X.mg X.base CX k f fd ps sp) (hr : Room k X.A) (hm : OpM X.K C (cmpInfo op).2.1 f) (hb : Binds X.K fd ps []) (hx : Passes CX X E) : OpR X (compareOp op) (rOwn C sp E) := by
  intro pins s σ H x y v u Q I rx ry h
  obtain ⟨a, b, dx, dy, fs, gs, rfl, rfl, ha, hb', hs⟩ := h
  cases rx
  cases ry
  obtain ⟨mA, J, _⟩ := ins_get I.hok ha
  obtain ⟨mB, J', _⟩ := ins_get I.hok hb'
  obtain ⟨od, J, _⟩ := J.look
  obtain ⟨od', J', _⟩ := J'.look
  obtain ⟨m, hF⟩ := I.fr
  rw [hop]
  exact PySem.W.cmp_K (tb := .ref C) hr.units0 hF I.ok.mod.kin J J'.type (by simp [PySem.W.notFirst]) hm.at_ hm.fn (run_own F hr hb hx I (vs := [V.ref a, V.ref b]) (us := [Value.ref a, Value.ref b]) (.cons rfl (.cons rfl .nil)) hs)
theorem un_own (F : FnOk X.prog X.w X.K X.mg X.base CX k f fd ps sp) (hr : Room k X.A) (hm : OpM X.K C "__neg__" f) (hb : Binds X.K fd ps []) (hx : Passes CX X E) :
    UnR X (unaryOp .USub) (fun x H Q => ∃ a dx fs, x = .ref a ∧ H a = some (.ins C dx fs) ∧ sp [.ref a] H Q E) := by
  intro pins s σ H x v Q I rx h
  obtain ⟨a, dx, fs, rfl, ha, hs⟩ := h
  cases rx
  obtain ⟨mA, J, _⟩ := ins_get I.hok ha
  obtain ⟨od, J, _⟩ := J.look
  obtain ⟨m, hF⟩ := I.fr
  exact PySem.W.ksp_neg hF I.ok.mod.kin J hm.at_ hm.fn (run_fn F hr hb .nil hx I (vs := [V.ref a]) (us := [Value.ref a]) (.cons rfl .nil) (by simpa using hs))
end
section
variable {X : Cx} {CX : CXT} {C f : Addr} {fd : FuncData} {ps : List Str} {k : Nat} {E : XK} {pos : Pos}
def isNum : D → Bool
  | .num _ _ => true
  | _ => false
theorem num_ins {A : List Addr} {G : Hp} {x : V} {d : D} (h : isNum d = true) (r : Rp C A G x d) : ∃ a dx fs, x = .ref a ∧ G a = some (.ins C dx fs) := by
  cases d with
  | num t e => obtain ⟨a, dx, vt, ve, h1, h2, _⟩ := num_fs r; exact ⟨a, dx, _, h1, h2⟩
  | _ => cases h
/-- a op b of Numbers -/
def d2N (g : List D → Option D) (da db : List Sl → Option D) : List Sl → Option D := fun ρ => (da ρ).bind fun a => (db ρ).bind fun b => if isNum a && isNum b then g [a, b] else none
theorem id2N {g : List D → Option D} {da db : List Sl → Option D} : ∀ σ H Q, tD C (d2N g da db) σ H Q → tOp (rOwn C (SpD C g) E) (tD C da) (tD C db) σ H Q := fun σ H Q ⟨A, H0, G, ρ, d, en, sm, hd, k⟩ => by
  obtain ⟨a, h1, hd⟩ := obind hd
  obtain ⟨b, h2, hd⟩ := obind hd
  split at hd
  · rename_i hn
    rw [Bool.and_eq_true] at hn
    refine ⟨A, H0, G, ρ, a, en, sm, h1, fun G1 H1 x x1 r1 => ⟨A, H0, G1, ρ, b, en.ext x1, x1.s, h2, fun G2 H2 y x2 r2 => ?_⟩⟩
    have r1' := r1.mono x2.g
    obtain ⟨p, dp, fp, rfl, gp⟩ := num_ins hn.1 r1'
    obtain ⟨q, dq, fq, rfl, gq⟩ := num_ins hn.2 r2
    exact ⟨p, q, dp, dq, fp, fq, rfl, rfl, x2.s _ _ gp, x2.s _ _ gq, A, G2, [a, b], d, ((en.ext x1).ext x2).cel, x2.s, .cons r1' (.cons r2 .nil), hd, fun G' H' v x3 r3 => ⟨plain_rp r3, k G' H' v ((x1.trans x2).trans x3) r3⟩⟩
  · cases hd
theorem dn_opN {op : Operator} {a b : Expr} {g : List D → Option D} {da db : List Sl → Option D} (F : FnOk X.prog X.w X.K X.mg X.base CX k f fd ps (SpD C g)) (hr : Room k X.A) (hc : PySem.W.selfFirst X.K C = true) (hm : OpM X.K C (PySem.dunder op.info.2) f) (hb : Binds X.K fd ps []) (hx : Passes CX X E)
    (ha : PE X a (tD C da)) (hb' : PE X b (tD C db)) : PE X (.BinOp a op b pos) (tD C (d2N g da db)) := pe_to (pe_op (op_own F hr hc hm hb hx) ha hb') id2N
theorem dn_eqN {a b : Expr} {g : List D → Option D} {da db : List Sl → Option D} (F : FnOk X.prog X.w X.K X.mg X.base CX k f fd ps (SpD C g)) (hr : Room k X.A) (hm : OpM X.K C "__eq__" f) (hb : Binds X.K fd ps []) (hx : Passes CX X E)
    (ha : PE X a (tD C da)) (hb' : PE X b (tD C db)) : PE X (.Compare a [.Eq] [b] pos) (tD C (d2N g da db)) := pe_to (pe_cmpR (cmp_own (op := .Eq) rfl F hr hm hb hx) ha hb' (nomark _)) id2N
theorem dt_eqN {a b : Expr} {g : List D → Option D} {da db : List Sl → Option D} (F : FnOk X.prog X.w X.K X.mg X.base CX k f fd ps (SpD C g)) (hr : Room k X.A) (hm : OpM X.K C "__eq__" f) (hb : Binds X.K fd ps []) (hx : Passes CX X E)
    (ha : PE X a (tD C da)) (hb' : PE X b (tD C db)) : PT X (.Compare a [.Eq] [b] pos) (tB C (dAsB (d2N g da db))) := pt_to (pt_cmpR (cmp_own (op := .Eq) rfl F hr hm hb hx) ha hb' (nomark _)) (test_of id2N)
def d1N (g : List D → Option D) (da : List Sl → Option D) : List Sl → Option D := fun ρ => (da ρ).bind fun a => if isNum a then g [a] else none
theorem dn_negN {a : Expr} {g : List D → Option D} {da : List Sl → Option D} (F : FnOk X.prog X.w X.K X.mg X.base CX k f fd ps (SpD C g)) (hr : Room k X.A) (hm : OpM X.K C "__neg__" f) (hb : Binds X.K fd ps []) (hx : Passes CX X E)
    (ha : PE X a (tD C da)) : PE X (.UnaryOp .USub a pos) (tD C (d1N g da)) := pe_to (pe_un (un_own F hr hm hb hx) ha) fun σ H Q ⟨A, H0, G, ρ, d, en, sm, hd, k⟩ => by
  obtain ⟨a, h1, hd⟩ := obind hd
  split at hd
  · rename_i hn
    refine ⟨A, H0, G, ρ, a, en, sm, h1, fun G1 H1 x x1 r1 => ?_⟩
    obtain ⟨p, dp, fp, rfl, gp⟩ := num_ins hn r1
    exact ⟨p, dp, fp, rfl, x1.s _ _ gp, A, G1, [a], d, (en.ext x1).cel, x1.s, .cons r1 .nil, hd, fun G' H' v x3 r3 => k G' H' v (x1.trans x3) r3⟩
  · cases hd
/-! isinstance -/
/-- what isinstance asks of the class Number -/
structure IsT (K : PySem.W.Frag) (C : Addr) : Prop where
  cl : Cls K C
  ha : PySem.W.findIn K (.ref C) "__class__" = some (some (.builtin "object.__class__"))
  hn : PySem.W.specialIn K (.builtin "object.__class__") "__get__" = some (some (.builtin "getset_descriptor.__get__"))
  ht : PySem.W.takesIn K (.builtin "object.__class__") = some true
  hm : PySem.W.mroIn K C (.type "object") = some true
  k1 : PySem.W.kitOne K (.ref C) (.ref C) = some true
  k0 : ∀ T ∈ ["NoneType", "bool", "int", "str", "tuple", "list"], PySem.W.kitOne K (.type T) (.ref C) = some false
def fIsNum : D → Option D
  | .num _ _ => some (.bl true)
  | .ref _ => none
  | _ => some (.bl false)
theorem dn_isNum {a : Expr} {x : Str} {p p2 : Pos} {da : List Sl → Option D} (T : IsT X.K C) (hg : Gl X "isinstance") (hm : X.mg "isinstance" = none) (hgx : Gl X x) (hmx : X.mg x = some (.ref C)) (ha : PE X a (tD C da)) (hdb : (x == ("__debug__" : Str)) = false := by decide)
    (he : starEach [a, .Name x p2] X.env = (false, eval a X.env) :: starEach [.Name x p2] X.env := by rfl) (he2 : starEach [.Name x p2] X.env = (false, eval (.Name x p2) X.env) :: starEach [] X.env := by rfl) (hpl : (backTo pos (starEach [.Name x p2] X.env)).any (·.1) = false := by rfl) :
    PE X (.Call (.Name "isinstance" p) [a, .Name x p2] [] pos) (tD C (d1 fIsNum da)) :=
  pe_to (pe_callB call_isi hg hm (by decide +kernel) (pa_cons ha (pa_cons (pe_glob (v := .ref C) hgx hmx rfl hdb) pa_nil he2) he) (by decide) (by decide) he hpl) fun σ H Q ⟨A, H0, G, ρ, z, en, sm, hd, k⟩ => by
    obtain ⟨d, h1, hd⟩ := obind hd
    refine ⟨A, H0, G, ρ, d, en, sm, h1, fun G1 H1 v x1 r1 => ?_⟩
    have fin : ∀ (t : Value) (b : Bool), TyX X.K H1 v t → PySem.W.kitOne X.K t (.ref C) = some b → z = .bl b → rIsi X.K [v, .ref C] H1 Q := fun t b h1 h2 e => by
      subst e
      exact ⟨v, .ref C, t, .ref C, b, rfl, .own C, h1, h2, k G1 H1 _ x1 (.bl b)⟩
    cases d with
    | non => cases r1; exact fin _ false (.base .non) (T.k0 _ (by simp)) (Option.some.inj hd).symm
    | bl b => cases r1; exact fin _ false (.base (.bl _)) (T.k0 _ (by simp)) (Option.some.inj hd).symm
    | int i => cases r1; exact fin _ false (.base (.int _)) (T.k0 _ (by simp)) (Option.some.inj hd).symm
    | str i => cases r1; exact fin _ false (.base (.str _)) (T.k0 _ (by simp)) (Option.some.inj hd).symm
    | tup ds => cases r1 with | tup e r => exact fin _ false (.base (.tup (x1.s _ _ e))) (T.k0 _ (by simp)) (Option.some.inj hd).symm
    | lst ds => cases r1 with | lst e r => exact fin _ false (.base (.lst (x1.s _ _ e))) (T.k0 _ (by simp)) (Option.some.inj hd).symm
    | num t e =>
      obtain ⟨b, dx, vt, ve, rfl, g, _⟩ := num_fs r1
      exact fin _ true (.base (.ins (x1.s _ _ g) T.cl T.ha T.hn T.ht T.hm)) T.k1 (Option.some.inj hd).symm
    | ref i => cases hd
/-- isinstance(a, tuple) -/
def fIsTup : D → Option D
  | .num _ _ => none
  | .ref _ => none
  | .tup _ => some (.bl true)
  | _ => some (.bl false)
theorem dn_isTup {a : Expr} {p p2 : Pos} {da : List Sl → Option D} (hg : Gl X "isinstance") (hm : X.mg "isinstance" = none) (hgx : Gl X "tuple") (hmx : X.mg "tuple" = none) (ha : PE X a (tD C da))
    (he : starEach [a, .Name "tuple" p2] X.env = (false, eval a X.env) :: starEach [.Name "tuple" p2] X.env := by rfl) (he2 : starEach [.Name "tuple" p2] X.env = (false, eval (.Name "tuple" p2) X.env) :: starEach [] X.env := by rfl) (hpl : (backTo pos (starEach [.Name "tuple" p2] X.env)).any (·.1) = false := by rfl) :
    PE X (.Call (.Name "isinstance" p) [a, .Name "tuple" p2] [] pos) (tD C (d1 fIsTup da)) :=
  pe_to (pe_callB call_isi hg hm (by decide +kernel) (pa_cons ha (pa_cons (pe_bltn (v := .ty "tuple") hgx hmx (by decide +kernel) rfl) pa_nil he2) he) (by decide) (by decide) he hpl) fun σ H Q ⟨A, H0, G, ρ, z, en, sm, hd, k⟩ => by
    obtain ⟨d, h1, hd⟩ := obind hd
    refine ⟨A, H0, G, ρ, d, en, sm, h1, fun G1 H1 v x1 r1 => ?_⟩
    have fin : ∀ (t : String) (b : Bool), TyX X.K H1 v (.type t) → kitB t "tuple" = some b → z = .bl b → rIsi X.K [v, .ty "tuple"] H1 Q := fun t b h1 h2 e => by
      subst e
      exact ⟨v, .ty "tuple", .type t, .type "tuple", b, rfl, .ty "tuple", h1, kit_ty h2, k G1 H1 _ x1 (.bl b)⟩
    cases d with
    | non => cases r1; exact fin _ false (.base .non) (by decide +kernel) (Option.some.inj hd).symm
    | bl b => cases r1; exact fin _ false (.base (.bl _)) (by decide +kernel) (Option.some.inj hd).symm
    | int i => cases r1; exact fin _ false (.base (.int _)) (by decide +kernel) (Option.some.inj hd).symm
    | str i => cases r1; exact fin _ false (.base (.str _)) (by decide +kernel) (Option.some.inj hd).symm
    | tup ds => cases r1 with | tup e r => exact fin _ true (.base (.tup (x1.s _ _ e))) (by decide +kernel) (Option.some.inj hd).symm
    | lst ds => cases r1 with | lst e r => exact fin _ false (.base (.lst (x1.s _ _ e))) (by decide +kernel) (Option.some.inj hd).symm
    | num t e => cases hd
    | ref i => cases hd
end
/-! a Number that is made -/
mutual
def noRef : D → Bool
  | .tup ds => noRefs ds
  | .lst ds => noRefs ds
  | .num t e => noRef t && noRef e
  | .ref _ => false
  | _ => true
def noRefs : List D → Bool
  | [] => true
  | d :: ds => noRef d && noRefs ds
end
mutual
theorem Rp.noRef {C : Addr} {A A' : List Addr} {G : Hp} : ∀ {d : D} {v : V}, Rp C A G v d → DN.noRef d = true → Rp C A' G v d
  | .non, _, h, _ => by cases h; exact .non
  | .bl b, _, h, _ => by cases h; exact .bl b
  | .int i, _, h, _ => by cases h; exact .int i
  | .str x, _, h, _ => by cases h; exact .str x
  | .tup ds, _, h, n => by cases h with | tup e r => exact .tup e (RpAll.noRef r (by simpa [DN.noRef] using n))
  | .lst ds, _, h, n => by cases h with | lst e r => exact .lst e (RpAll.noRef r (by simpa [DN.noRef] using n))
  | .num t e, _, h, n => by
    have n' : DN.noRef t = true ∧ DN.noRef e = true := by simpa [DN.noRef] using n
    cases h with | num e1 r1 r2 => exact .num e1 (Rp.noRef r1 n'.1) (Rp.noRef r2 n'.2)
  | .ref i, _, _, n => by simp [DN.noRef] at n
theorem RpAll.noRef {C : Addr} {A A' : List Addr} {G : Hp} : ∀ {ds : List D} {vs : List V}, RpAll C A G vs ds → DN.noRefs ds = true → RpAll C A' G vs ds
  | [], _, h, _ => by cases h; exact .nil
  | d :: ds, _, h, n => by
    have n' : DN.noRef d = true ∧ DN.noRefs ds = true := by simpa [DN.noRefs] using n
    cases h with | cons r1 r2 => exact .cons (Rp.noRef r1 n'.1) (RpAll.noRef r2 n'.2)
end
/-- the Number that a cell is -/
def asNum (t : Nat) (i : Nat) (μ : List Cell) : Option D := match μ[i]? with
  | some (.ins u [("tower", a), ("element", b)]) => if u == t && noRef a && noRef b then some (.num a b) else none
  | _ => none
theorem asNum_ok {t i : Nat} {μ : List Cell} {d : D} (h : asNum t i μ = some d) : ∃ a b, μ[i]? = some (.ins t [("tower", a), ("element", b)]) ∧ noRef a = true ∧ noRef b = true ∧ d = .num a b := by
  unfold asNum at h
  split at h
  · rename_i u a b e
    obtain ⟨hc, rfl⟩ := oif h
    simp only [Bool.and_eq_true, beq_iff_eq] at hc
    obtain ⟨⟨rfl, h1⟩, h2⟩ := hc
    exact ⟨a, b, e, h1, h2, rfl⟩
  · cases h
/-- a cell that no one else can reach stands for good -/
theorem asNum_frz {S : CS} {t : Nat} (ht : S.cl t = S.cls) {A A' : List Addr} {i : Nat} {x : Addr} {μ : List Cell} {G H G' H' : Hp} {d : D} (h : asNum t i μ = some d) (W : Wd S A' μ G' H') (hx : A'[i]? = some x) (nx : H x = none)
    (xg : Same G G') (xh : ∀ b o, H b = some o → H' b = some o) (xf : ∀ b o, H b = some o → G b = none → G' b = none) : ∃ G'', Ext G H G'' H' ∧ Rp S.cls A G'' (.ref x) d := by
  obtain ⟨a, b, e, n1, n2, rfl⟩ := asNum_ok h
  obtain ⟨gx, dx, us, ex, rf⟩ := W.cell _ _ _ hx e
  cases rf with
  | cons r1 rf => cases rf with
    | cons r2 rf => cases rf with
      | nil =>
        rename_i va vb
        have sg : Same G' (upd G' x (.ins (S.cl t) dx [("tower", va), ("element", vb)])) := same_new gx _
        refine ⟨upd G' x (.ins (S.cl t) dx [("tower", va), ("element", vb)]), ⟨xg.trans sg, fun c o q => ?_, xh, fun c o q q' => ?_⟩, .num (dx := dx) (by rw [← ht]; exact upd_same) ((r1.mono sg).noRef n1) ((r2.mono sg).noRef n2)⟩
        · by_cases z : c = x
          · subst z; rw [upd_same] at q; cases q; exact ex
          · rw [upd_ne z] at q; exact W.same _ _ q
        · rw [upd_ne (ne_of_none q nx)]; exact xf _ _ q q'
section
variable {X : Cx} {CX : CXT} {S : CS} {f : Addr} {fd : FuncData} {ps : List Str} {k : Nat} {E : XK} {pos p : Pos} {x : Str} {e : Expr} {es : List Expr}
def dMakeN (t : Nat) (g : FnS) (das : List Sl → Option (List D)) (dvs : List D) : List Sl → Option D := fun ρ => (das ρ).bind fun ds => if noRefs (ds ++ dvs) then (g (.ref 0 :: (ds ++ dvs)) [.ins t []]).bind fun r => match r.1 with
    | .non => asNum t 0 r.2
    | _ => none
  else none
theorem dn_makeN {t : Nat} {g : FnS} {das : List Sl → Option (List D)} {dvs : List D} {dv : List V} {dval : List Value} (ht : S.cl t = S.cls) (M : Mk X.K (S.cl t) f) (F : FnOk X.prog X.w X.K X.mg X.base CX k f fd ps (SpS S g)) (hr : Room (k + 1) X.A) (hg : Gl X x) (hm : X.mg x = some (.ref (S.cl t)))
    (hb : Binds X.K fd ps dval) (hdv : Vals dv dval) (hdr : ∀ A G, RpAll S.cls A G dv dvs) (hx : Passes CX X E)
    (ha : PA X (e :: es) (tA S.cls das)) (hdb : (x == ("__debug__" : Str)) = false := by decide) (he : starEach (e :: es) X.env = (false, eval e X.env) :: starEach es X.env := by rfl) (hpl : (backTo pos (starEach es X.env)).any (·.1) = false := by rfl) :
    PE X (.Call (.Name x p) (e :: es) [] pos) (tD S.cls (dMakeN t g das dvs)) := pe_to (pe_make M F hr hg hm hb hdv hx ha hdb he hpl) fun σ H Q ⟨A, H0, G, ρ, d, en, sm, hd, kk⟩ => by
  obtain ⟨ds, h1, hd⟩ := obind hd
  split at hd
  · rename_i hn
    obtain ⟨⟨r, μ'⟩, h2, hd⟩ := obind hd
    simp only at hd
    split at hd
    · refine ⟨A, H0, G, ρ, ds, en, sm, h1, fun G1 H1 vs x1 r1 => fun a dx ha hdx ne => ?_⟩
      have hH : ∀ b o, H1 b = some o → (upd (upd H1 dx (.own a)) a (.ins (S.cl t) dx [])) b = some o := fun b o h => by
        rw [upd_ne (ne_of_none h ha), upd_ne (ne_of_none h hdx)]; exact h
      have W0 : Wd S [] [] G1 H1 := ⟨x1.s, rfl, List.nodup_nil, fun i a c h => by simp at h⟩
      obtain ⟨W2, x2⟩ := W0.add (c := .ins t []) ha hH ⟨dx, [], upd_same, .nil⟩
      have ra : RpAll S.cls ([] ++ [a]) G1 (vs ++ dv) (ds ++ dvs) := (r1.append (hdr A G1)).noRef hn
      refine ⟨[] ++ [a], [] ++ [.ins t []], G1, _, .non, μ', W2, .cons (.ref rfl) ra, h2, fun A' G' H' v x3 W3 r3 => ?_⟩
      cases r3
      obtain ⟨nw, e1⟩ := x3.pre
      have x4 := x2.trans x3
      obtain ⟨G'', xx, rr⟩ := asNum_frz (A := A) ht hd W3 (get_pre e1 rfl) ha x4.g (fun b o q => x4.h b o (fun z => by cases z) q) x4.f
      exact ⟨rfl, kk G'' H' _ (x1.trans xx) rr⟩
    · cases hd
  · cases hd
/-- a def that makes a Number and gives it -/
def frz (t : Nat) (g : FnS) : List D → Option D := fun ds => if noRefs ds then (g ds []).bind fun r => match r.1 with
    | .ref i => asNum t i r.2
    | _ => none
  else none
theorem spD_frz {t : Nat} (ht : S.cl t = S.cls) {g : FnS} {P : Program} {w : World} {K : PySem.W.Frag} {mg : Str → Option Value} {base : Heap} (F : FnOk P w K mg base CX k f fd ps (SpS S g)) : FnOk P w K mg base CX k f fd ps (SpD S.cls (frz t g)) := F.imp fun vs H Q E ⟨A, G, ds, d, cl, sm, r, hd, kk⟩ => by
  unfold frz at hd
  split at hd
  · rename_i hn
    obtain ⟨⟨q, μ'⟩, h2, hd⟩ := obind hd
    simp only at hd
    split at hd
    · rename_i i
      have W0 : Wd S [] [] G H := ⟨sm, rfl, List.nodup_nil, fun i a c h => by simp at h⟩
      refine ⟨[], [], G, ds, _, μ', W0, r.noRef hn, h2, fun A' G' H' v x3 W3 r3 => ?_⟩
      cases r3 with
      | @ref i a hi =>
        obtain ⟨nw, e1, e2⟩ := x3.a
        obtain ⟨G'', xx, rr⟩ := asNum_frz (A := A) ht hd W3 hi (e2 a (by rw [List.nil_append] at e1; rw [← e1]; exact List.mem_of_getElem? hi)) x3.g (fun b o q => x3.h b o (fun z => by cases z) q) x3.f
        exact kk G'' H' _ xx rr
    · cases hd
  · cases hd
end
end DN

/-! d.get(text), d.get(text, x): d a dict of the module with texts for keys and ints for values -/
namespace KG
open PySem PySem.Spec PyProof.Rows L2
inductive EsAt (P : Params) : List DictEntry → List (Str × Int) → Prop
  | nil : EsAt P [] []
  | cons {k : Str} {v : Int} {t u : Tok} {l : List DictEntry} {r : List (Str × Int)} : EsAt P l r → EsAt P (⟨PyData.keyHash P k, .str k t, .int v u⟩ :: l) ((k, v) :: r)
def KDi (K : PySem.W.Frag) (w : World) (d : Addr) (kvs : List (Str × Int)) : Prop := ∃ es n, K.lookup d = some ⟨.type "dict", none, .dict es n, #[]⟩ ∧ EsAt w.params es.toList kvs ∧ (d == sysModules) = false
theorem EsAt.lit {P : Params} {l : List DictEntry} {r : List (Str × Int)} (h : EsAt P l r) : PySem.W.KeysLit P l := by
  induction h with
  | nil => trivial
  | cons _ ih => exact ⟨⟨_, _, rfl, rfl⟩, ih⟩
theorem EsAt.find {P : Params} {l : List DictEntry} {r : List (Str × Int)} (h : EsAt P l r) (z : Str) : ((r.lookup z = none ∧ (l.find? fun e => Value.isStrOf z e.key).map (·.val) = none) ∨ ∃ v u, r.lookup z = some v ∧ (l.find? fun e => Value.isStrOf z e.key).map (·.val) = some (.int v u)) := by
  induction h with
  | nil => exact .inl ⟨rfl, rfl⟩
  | @cons k v t u l r _ ih =>
    by_cases e : k = z
    · refine .inr ⟨v, u, ?_, ?_⟩
      · rw [List.lookup_cons, show (z == k) = true by rw [e]; exact beq_self_eq_true z]
      · rw [List.find?_cons, show Value.isStrOf z (Value.str k t) = true from by show (k == z) = true; rw [e]; exact beq_self_eq_true z]; rfl
    · have e1 : (z == k) = false := by rw [beq_eq_false_iff_ne]; exact fun q => e q.symm
      have e2 : (k == z) = false := by rw [beq_eq_false_iff_ne]; exact e
      rw [List.lookup_cons, e1, List.find?_cons, show Value.isStrOf z (Value.str k t) = false from e2]
      exact ih
def kdOr (kvs : List (Str × Int)) (z : Str) (d : V) : V := match kvs.lookup z with
  | some v => .int v
  | none => d
theorem KDi.found {K : PySem.W.Frag} {w : World} {d : Addr} {kvs : List (Str × Int)} (h : KDi K w d kvs) {X : Cx} {pins : List (Addr × Obj)} {σ : L2.St} {H : Hp} {s : Shared} (I : Inv X pins σ H s) (eK : X.K = K) (eW : X.w = w) (z : Str) :
    (d == sysModules) = false ∧ ∃ f, s.heap.MapOf (strKind X.prog X.w) d f ∧ (∀ (b : Value), Value.ref d = b → s.TypeIs b "dict" ∧ ∀ a, b = .ref a → ∃ ob, s.heap.get? a = some ob ∧ ob.dict = none) ∧ ∀ (df : V) (dv : Value), RelV df dv → RelV (kdOr kvs z df) ((f z).getD dv) := by
  subst eK eW
  obtain ⟨es, n, hl, he, low⟩ := h
  have hm := PySem.W.mapOf_K (prog := X.prog) (w := X.w) I.kIn hl he.lit
  refine ⟨low, _, hm, ?_, ?_⟩
  · rintro b rfl
    refine ⟨hm.typeIs, ?_⟩
    rintro a e
    cases e
    exact ⟨_, I.kIn _ _ hl, rfl⟩
  · intro df dv hd
    show RelV (kdOr kvs z df) (((es.find? fun e => Value.isStrOf z e.key).map (·.val)).getD dv)
    rw [← Array.find?_toList]
    unfold kdOr
    rcases he.find z with ⟨e1, e2⟩ | ⟨v, u, e1, e2⟩
    · rw [e1, e2]; exact hd
    · rw [e1, e2]; exact ⟨u, rfl⟩
def tKGet1 (K : PySem.W.Frag) (w : World) (td ty : TE) : TE := fun σ H Q => td σ H fun x H1 => ∃ a kvs, x = .ref a ∧ KDi K w a kvs ∧ ty σ H1 fun y H2 => ∃ z, y = .str z ∧ Q (kdOr kvs z .non) H2
def tKGet2 (K : PySem.W.Frag) (w : World) (td ty tx : TE) : TE := fun σ H Q => td σ H fun x H1 => ∃ a kvs, x = .ref a ∧ KDi K w a kvs ∧ ty σ H1 fun y H2 => tx σ H2 fun d H3 => ∃ z, y = .str z ∧ Q (kdOr kvs z d) H3
section
variable {X : Cx} {o e f : Expr} {apos cpos : Pos} {td ty tx : TE}
theorem pe_kget1 (ho : PE X o td) (he : PE X e ty) (m : M1 X o "get" apos e cpos) : PE X (.Call (.Attribute o "get" apos) [e] [] cpos) (tKGet1 X.K X.w td ty) := by
  constructor
  intro pins s σ H Q I h
  refine wpAny_Call_method m.base m.few m.line PySem.F.plainAttrs_dict PySem.F.slot_dict_get PySem.F.type_dict_get (thn (ho.run pins s σ H _ I h) ?_)
  rintro u s1 ⟨x, H1, I1, rx, a, kvs, rfl, d, q1⟩
  cases (show u = Value.ref a from rx)
  obtain ⟨_, _, _, t1, _⟩ := d.found I1 rfl rfl ""
  obtain ⟨t1, t2⟩ := t1 _ rfl
  refine ⟨t1, t2, ?_⟩
  rw [m.trees]
  refine Calls.callWith_builtin rfl (Calls.evalArgs_plain (Calls.spliced_cons (thn (he.run pins s1 σ H1 _ I1 q1) ?_)))
  rintro iv s2 ⟨y, H2, I2, ry, z, rfl, q2⟩
  refine Calls.spliced_nil ?_
  obtain ⟨t, rfl⟩ := ry
  obtain ⟨low, f, hm, _, hv⟩ := d.found I2 rfl rfl z
  exact call_meetsIn PySem.F.slot_dict_get hm.typeIs PySem.F.entry_dict_get (PySem.F.args_dict_get_2 _ _) (meets_dict_get (strKind X.prog X.w) a (strKind_is X.prog X.w z t) low) ⟨f, hm, _, H2, I2.tok _, hv .non .none rfl, q2⟩
theorem pe_kget2 (ho : PE X o td) (he : PE X e ty) (hf : PE X f tx) (m : M2 X o "get" apos e f cpos) : PE X (.Call (.Attribute o "get" apos) [e, f] [] cpos) (tKGet2 X.K X.w td ty tx) := by
  constructor
  intro pins s σ H Q I h
  refine wpAny_Call_method m.base m.few m.line PySem.F.plainAttrs_dict PySem.F.slot_dict_get PySem.F.type_dict_get (thn (ho.run pins s σ H _ I h) ?_)
  rintro u s1 ⟨x, H1, I1, rx, a, kvs, rfl, d, q1⟩
  cases (show u = Value.ref a from rx)
  obtain ⟨_, _, _, t1, _⟩ := d.found I1 rfl rfl ""
  obtain ⟨t1, t2⟩ := t1 _ rfl
  refine ⟨t1, t2, ?_⟩
  rw [m.trees]
  refine Calls.callWith_builtin rfl (Calls.evalArgs_plain (Calls.spliced_cons (thn (he.run pins s1 σ H1 _ I1 q1) ?_)))
  rintro iv s2 ⟨y, H2, I2, ry, q2⟩
  refine Calls.spliced_cons (thn (hf.run pins s2 σ H2 _ I2 q2) ?_)
  rintro fv s3 ⟨d3, H3, I3, r3, z, rfl, q3⟩
  refine Calls.spliced_nil ?_
  obtain ⟨t, rfl⟩ := ry
  obtain ⟨low, f, hm, _, hv⟩ := d.found I3 rfl rfl z
  exact call_meetsIn PySem.F.slot_dict_get hm.typeIs PySem.F.entry_dict_get (PySem.F.args_dict_get_3 _ _ _) (meets_dict_get_default (strKind X.prog X.w) a (strKind_is X.prog X.w z t) low fv) ⟨f, hm, _, H3, I3.tok _, hv d3 fv r3, q3⟩
end
end KG

/-! t[:0:-1] of a tuple of two or three; list.extend(tuple) -/
namespace KG
open PySem PySem.Spec PyProof.Rows L2
theorem extend_tup (l : Addr) (items : Array Value) (n : Nat) (b : Addr) (items2 : Array Value) (n2 : Nat) (dd : Option Addr) (sl : Array (Option Value)) (hs0 : ¬(!items.isEmpty && Builtin.List.listTooLong (items.size + items2.size)) = true) (hs1 : items.size ≤ sizeLine) (hs2 : items.size + items2.size ≤ sizeLine + 1) :
    Meets (Builtin.«list.extend» ⟨[.ref l, .ref b], []⟩) (fun _ R s => (s.heap.get? l = some { cls := .type "list", dict := none, data := .seq items n, slots := #[] } ∧ s.heap.get? b = some { cls := .type "tuple", dict := dd, data := .seq items2 n2, slots := sl }) ∧ R (.ok (.ret Value.none)) { s with heap := s.heap.update l (Obj.mapSeq fun x => x ++ items2), toks := s.toks }) :=
  .of_wp fun prog w A R s h => by
    obtain ⟨hp, g, d, tk, os⟩ := s
    obtain ⟨⟨hl, hb⟩, h⟩ := h
    have g1 := AutoSeq1.idx_int
    have g2 := AutoSeq1.sub_tuple_tuple
    have g3 := AutoSeq1.sub_list_list
    have g4 := AutoSeq1.sub_tuple_list
    have g5 := AutoSeq1.sub_list_tuple
    have hz' : (items ++ items2).size ≤ sizeLine + 1 := by rw [Array.size_append]; exact hs2
    wp_walk using (wpAny_updateSeq hl rfl (hz := hs1) (_hz' := hz')), AutoSeq1.wpAny_loadPart' hl, AutoSeq1.wpAny_loadPart' hb
    exact ⟨_, rfl, h⟩
def rExtT (K : PySem.W.Frag) : V → List V → Hp → VK → Prop := fun x vs H Q => ∃ l b xs zs, x = .ref l ∧ vs = [.ref b] ∧ H l = some (.lst xs) ∧ SqT K H b zs ∧ xs.length + zs.length ≤ sizeLine ∧ Q .non (upd H l (.lst (xs ++ zs)))
theorem mt_extT {X : Cx} : MtR X "list.extend" (rExtT X.K) := by
  intro pins s σ H x vs v us Q I rx rv h
  obtain ⟨l, b, xs, zs, rfl, rfl, hH, hB, hz, q⟩ := h
  cases rx
  obtain ⟨u, rfl, ru⟩ := rv.one
  cases ru
  obtain ⟨z, its, n, r, hl, e⟩ := I.lstM hH
  obtain ⟨its2, r2, ⟨o2, e2, hc2, n2, hd2⟩, _⟩ := I.tuple hB
  obtain ⟨c2, dd, dt, sl⟩ := o2
  obtain rfl : c2 = .type "tuple" := hc2
  obtain rfl : dt = .seq its2.toArray n2 := hd2
  have hl2 := r2.length
  have hsz : its.toArray.size + its2.toArray.size ≤ sizeLine := by rw [List.size_toArray, List.size_toArray]; omega
  have hlong : ¬ (!its.toArray.isEmpty && Builtin.List.listTooLong (its.toArray.size + its2.toArray.size)) = true := by
    rw [notLongL hsz, Bool.and_false]
    exact Bool.false_ne_true
  refine call_meets F.slot_list_extend ⟨_, e, rfl⟩ F.entry_list_extend (F.args_list_extend_2 _ _) (extend_tup l its.toArray n b its2.toArray n2 dd sl hlong (by rw [List.size_toArray]; omega) (by omega)) ⟨⟨e, e2⟩, ?_⟩
  refine ⟨.non, _, I.lset (its' := its ++ its2) hH e (by simp) (r.append r2) ?_, rfl, q⟩
  rw [List.length_append]
  omega
section
variable {prog : Program} {w : World} {A : Around} {E : Value → Shared → Prop} {s : Shared}
theorem applied_back {sl : Addr} {vu vs vl : Value} {n m : Nat} {L R : Int} {Q : Int × Int × Nat → Shared → Prop} (hs : s.heap.IsSliceOf sl vl vu vs) (pl : IsPart vl none) (pu : IsPart vu (some 0)) (ps : IsPart vs (some (-1)))
    (e1 : Builtin.Slice.sliceAdjust none (some 0) (-1) (n : Int) = (L, R)) (e2 : Builtin.Slice.slicePlaces L R (-1) = m) (h : Q (L, -1, m) s) : wpAny (model prog w) A (Builtin.Slice.sliceApplied (.ref sl) (pure (n : Int))) Q E s := by
  obtain ⟨os, hos, hcs, hds⟩ := id hs
  unfold Builtin.Slice.sliceApplied Builtin.Slice.sliceFields
  refine wpAny_bind (wpAny_bind (wpAny_field hos hds (x := vl) rfl (wpAny_bind (wpAny_field hos hds (x := vu) rfl (wpAny_bind (wpAny_field hos hds (x := vs) rfl (wpAny_pure ?_)))))))
  refine wpAny_bind (HT.slicePart_ ps ?_)
  show wpAny _ _ (if ((-1 : Int) == 0) = true then _ else _) _ _ s
  rw [if_neg (by decide)]
  refine wpAny_bind (HT.slicePart_ pl (wpAny_bind (HT.slicePart_ pu (wpAny_bind (wpAny_pure ?_)))))
  show wpAny _ _ (match Builtin.Slice.sliceAdjust none (some 0) (-1) (n : Int) with | (lo, hi) => pure (lo, (-1 : Int), Builtin.Slice.slicePlaces lo hi (-1))) _ _ s
  rw [e1]
  show wpAny _ _ (pure (L, (-1 : Int), Builtin.Slice.slicePlaces L R (-1))) _ _ s
  rw [e2]
  exact wpAny_pure h
theorem item_back {t sl : Addr} {items res : Array Value} {vu vs vl : Value} {m : Nat} {L R : Int} {Q : Value → Shared → Prop} (ht : IsTup s.heap t items) (hs : s.heap.IsSliceOf sl vl vu vs) (pl : IsPart vl none) (pu : IsPart vu (some 0)) (ps : IsPart vs (some (-1)))
    (e1 : Builtin.Slice.sliceAdjust none (some 0) (-1) (items.size : Int) = (L, R)) (e2 : Builtin.Slice.slicePlaces L R (-1) = m) (e3 : ((List.range m).filterMap fun (k : Nat) => items[(L + (k : Int) * (-1)).toNat]?).toArray = res) (hsz : res.size ≤ sizeLine)
    (h : Q (.ref s.heap.objs.size) { s with heap := s.heap.push { cls := .type "tuple", data := .seq res } }) : wpAny (model prog w) A (getItem (.ref t) (.ref sl)) Q E s := by
  obtain ⟨os, hos, hcs, hds⟩ := id hs
  have hTs : s.TypeIs (.ref sl) "slice" := ⟨os, hos, hcs⟩
  unfold getItem
  try with_reducible refine wpAny_holding ?_
  first | refine wpAny_bind (wpAny_pure ?_) | skip
  refine wpAny_bind (wpAny_sequenceKey ht.typeIs (by decide) ?_)
  refine wpAny_bind (wpAny_callSpecial?_slot (name := Str.ofString "__getitem__") ht.typeIs PyProof.Rows.slot_tuple_getitem (wpAny_call_entry PyProof.Rows.slot_tuple_getitem ht.typeIs entry_tuple_getitem ?_ (args_tuple_getitem _ _)))
  show wpAny _ _ (Builtin.Tuple.tupleItemsOf (.ref t) >>= _) _ _ s
  refine wpAny_bind (tupleItemsOf_ ht ?_)
  refine wpAny_bind (wpAny_typeOf hTs ?_)
  rw [if_pos (by decide)]
  refine wpAny_bind (applied_back hs pl pu ps e1 e2 ?_)
  have hno : ¬ ((L == 0 && (-1 : Int) == 1 && m == items.size) = true) := by
    intro q
    rw [Bool.and_eq_true, Bool.and_eq_true] at q
    exact absurd q.1.2 (by decide)
  show wpAny _ _ (if (L == 0 && (-1 : Int) == 1 && m == items.size) = true then _ else _) _ _ s
  rw [if_neg hno, e3]
  first
    | exact wpAny_bind (m := Builtin.Tuple.tupleExact _) (wpAny_newObj_type (wpAny_pure ⟨_, rfl, wpAny_pure h⟩) hsz)
    | exact wpAny_bind (m := Builtin.Tuple.tupleExact _) (wpAny_newObj_type (wpAny_bind (wpAny_pure (wpAny_pure ⟨_, rfl, wpAny_pure h⟩))) hsz)
    | exact wpAny_bind (wpAny_bind (m := Builtin.Tuple.tupleExact _) (wpAny_newObj_type (wpAny_pure (wpAny_pure ⟨_, rfl, wpAny_pure h⟩)) hsz))
    | exact wpAny_bind (wpAny_bind (m := Builtin.Tuple.tupleExact _) (wpAny_newObj_type (wpAny_pure ⟨_, rfl, wpAny_pure h⟩) hsz))
end
/-- what the one slice leaves of two or three items -/
inductive Back : List V → List V → Prop
  | two (x a : V) : Back [x, a] [a]
  | three (x a b : V) : Back [x, a, b] [b, a]
def tBack (K : PySem.W.Frag) (te : TE) : TE := fun σ H Q => te σ H fun x H1 => ∃ a xs ys, x = .ref a ∧ SqT K H1 a xs ∧ Back xs ys ∧ ∀ p, H1 p = none → Q (.ref p) (upd H1 p (.tup ys))
theorem pe_backT {X : Cx} {e : Expr} {te : TE} {k k0 : Nat} {p0 p1 p2 p3 pos : Pos} (he : PE X e te) : PE X (.Subscript e (.Slice none (some (.Constant (.int 0) k0 p0)) (some (.UnaryOp .USub (.Constant (.int 1) k p1) p2)) p3) pos) (tBack X.K te) := by
  constructor
  intro pins s σ H Q I h
  refine Subscript_ (thn (he.run pins s σ H _ I h) ?_)
  rintro v s1 ⟨x, H1, I1, r1, a, xs, ys, rfl, hx, hb, q⟩
  cases r1
  have hst : PO X (some (.UnaryOp .USub (.Constant (.int 1) k p1) p2)) (tPart (tUn (rU fun i => .int (-i)) (tC (.int 1)))) := po_some (pe_un un_neg pe_int)
  have hup : PO X (some (.Constant (.int 0) k0 p0)) (tPart (tC (.int 0))) := po_some pe_int
  refine wpAny_Slice (thn (po_none.run pins s1 σ H1 (fun o H2 => o = none ∧ H2 = H1) I1 ⟨rfl, rfl⟩) ?_)
  rintro vl s2 ⟨l, H2, I2, pl, rfl, rfl⟩
  refine thn (hup.run pins s2 σ H2 (fun o H3 => o = some 0 ∧ H3 = H2) I2 ⟨0, rfl, rfl, rfl⟩) ?_
  rintro vu s3 ⟨u, H3, I3, pu, rfl, rfl⟩
  refine thn (hst.run pins s3 σ H3 (fun o H4 => o = some (-1) ∧ H4 = H3) I3 ⟨1, rfl, -1, rfl, rfl, rfl⟩) ?_
  rintro vs s4 ⟨o, H4, I4, ps, rfl, rfl⟩
  have I5 : Inv X pins σ H4 { s4 with heap := s4.heap.push { cls := .type "slice", data := .fields #[vl, vu, vs] } } := I4.kept (t' := s4.toks) fun b ob q => Heap.get?_push_of_some _ q
  obtain ⟨its, r, ht, hz⟩ := I5.tuple hx
  show wpAny (model X.prog X.w) X.A (subscriptTail e (.Slice none (some (.Constant (.int 0) k0 p0)) (some (.UnaryOp .USub (.Constant (.int 1) k p1) p2)) p3) (.ref a) (.ref s4.heap.objs.size)) (EP X pins σ Q) X.xe { s4 with heap := s4.heap.push { cls := .type "slice", data := .fields #[vl, vu, vs] } }
  refine tail_any (ops := [.ref a, .ref s4.heap.objs.size]) ht.typeIs PyProof.Rows.slot_tuple_getitem.lookup ?_ (by with_unfolding_all rfl)
  cases hb with
  | two x0 a0 =>
    cases r with
    | cons rx rr => cases rr with
      | cons ra rr2 =>
        cases rr2
        refine item_back ht (Heap.IsSliceOf.new _ vl vu vs) pl pu ps (L := 1) (R := 0) (m := 1) rfl rfl rfl (by show 1 ≤ sizeLine; decide) ?_
        refine ⟨.ref _, _, I5.laid (t' := s4.toks) (o := .tup [a0]) (fun b ob q => Heap.get?_push_of_some _ q) (Nat.le_refl _) ?_, rfl, q _ (I5.hok.fresh (Nat.le_refl _))⟩
        exact ⟨by show 1 ≤ sizeLine; decide, _, .cons ra .nil, IsTup.new _ _⟩
  | three x0 a0 b0 =>
    cases r with
    | cons rx rr => cases rr with
      | cons ra rr2 => cases rr2 with
        | cons rb rr3 =>
          cases rr3
          refine item_back ht (Heap.IsSliceOf.new _ vl vu vs) pl pu ps (L := 2) (R := 0) (m := 2) rfl rfl rfl (by show 2 ≤ sizeLine; decide) ?_
          refine ⟨.ref _, _, I5.laid (t' := s4.toks) (o := .tup [b0, a0]) (fun b ob q => Heap.get?_push_of_some _ q) (Nat.le_refl _) ?_, rfl, q _ (I5.hok.fresh (Nat.le_refl _))⟩
          exact ⟨by show 2 ≤ sizeLine; decide, _, .cons rb (.cons ra .nil), IsTup.new _ _⟩
end KG

set_option maxHeartbeats 1000000
/-! texts, dicts of the module, in, lists extended -/
namespace DN
open PySem PySem.Spec PyProof.Rows L2 KG
section
variable {X : Cx} {C : Addr} {pos : Pos}
/-! o.m(e) of a text -/
theorem id_m1 {r : V → List V → Hp → VK → Prop} {f : D → D → Option D} {da db : List Sl → Option D} (h : ∀ (A : List Addr) (G H : Hp) (x : Str) (y : V) (b d : D) (Q : VK), Same G H → Rp C A G y b → f (.str x) b = some d → (∀ G' H' v, Ext G H G' H' → Rp C A G' v d → Q v H') → r (.str x) [y] H Q) (hs : ∀ a b d, f a b = some d → ∃ x, a = .str x) :
    ∀ σ H Q, tD C (d2 f da db) σ H Q → tM1 r (tD C da) (tD C db) σ H Q := fun σ H Q ⟨A, H0, G, ρ, d, en, sm, hd, k⟩ => by
  obtain ⟨a, h1, hd⟩ := obind hd
  obtain ⟨b, h2, hd⟩ := obind hd
  obtain ⟨x, rfl⟩ := hs a b d hd
  refine ⟨A, H0, G, ρ, _, en, sm, h1, fun G1 H1 v x1 r1 => ?_⟩
  cases r1
  exact ⟨⟨x, rfl⟩, A, H0, G1, ρ, b, en.ext x1, x1.s, h2, fun G2 H2 y x2 r2 => h A G2 H2 x y b d Q x2.s r2 hd fun G' H' v x3 r3 => k G' H' v ((x1.trans x2).trans x3) r3⟩
def fSplit : D → D → Option D
  | .str a, .str b => if !(b.length == 0) && decide (a.length ≤ 100000) then some (.lst ((Txt.split a b).map .str)) else none
  | _, _ => none
theorem strs_rp {C : Addr} {A : List Addr} {G : Hp} : ∀ l : List Str, RpAll C A G (l.map V.str) (l.map D.str)
  | [] => .nil
  | x :: l => .cons (.str x) (strs_rp l)
theorem dn_split {o e : Expr} {apos : Pos} {da db : List Sl → Option D} (ho : PE X o (tD C da)) (he : PE X e (tD C db)) (hs : starEach [e] X.env = [(false, eval e X.env)] := by rfl) (hbase : attributeBase o "split" X.env (eval o X.env) = eval o X.env := by rfl) (hline : (apos.endLine == pos.line) = true := by rfl) :
    PE X (.Call (.Attribute o "split" apos) [e] [] pos) (tD C (d2 fSplit da db)) := pe_to (pe_split ho he hs hbase hline) (id_m1 (fun A G H x y b d Q sm r hd k => by
  cases b with
  | str b =>
    cases r
    obtain ⟨hc, rfl⟩ := oif (show (if !(b.length == 0) && decide (x.length ≤ 100000) then some (D.lst ((Txt.split x b).map .str)) else none) = some d from hd)
    rw [Bool.and_eq_true, Bool.not_eq_true'] at hc
    exact ⟨x, b, rfl, rfl, hc.1, by have := of_decide_eq_true hc.2; rw [sizeLine_eq]; omega, fun p np => k _ _ _ (.new sm np _) (.lst upd_same (strs_rp _))⟩
  | _ => cases hd) fun a b d h => by
    cases a with
    | str x => exact ⟨x, rfl⟩
    | _ => cases h)
def strL : List D → Option (List Str)
  | [] => some []
  | .str i :: ds => (strL ds).bind fun r => some (i :: r)
  | _ :: _ => none
theorem strL_eq : ∀ {ds : List D} {l : List Str}, strL ds = some l → ds = l.map D.str
  | [], _, h => by cases h; rfl
  | d :: ds, _, h => by
    unfold strL at h
    split at h
    · rename_i q; cases q
    · rename_i q
      cases q
      obtain ⟨r, h1, h2⟩ := obind h
      cases h2
      rw [strL_eq h1]; rfl
    · cases h
theorem strs_eq {C : Addr} {A : List Addr} {G : Hp} : ∀ {l : List Str} {vs : List V}, RpAll C A G vs (l.map D.str) → vs = l.map V.str
  | [], _, h => by cases h; rfl
  | x :: l, _, h => by
    cases h with
    | cons r1 r2 => cases r1; rw [strs_eq r2]; rfl
def fJoin : D → D → Option D
  | .str a, .lst ds => (strL ds).bind fun l => if decide ((l.map (·.length)).sum + l.length * a.length ≤ 16777216) then some (.str (Txt.join a l)) else none
  | _, _ => none
theorem dn_join {o e : Expr} {apos : Pos} {da db : List Sl → Option D} (ho : PE X o (tD C da)) (he : PE X e (tD C db)) (hs : starEach [e] X.env = [(false, eval e X.env)] := by rfl) (hbase : attributeBase o "join" X.env (eval o X.env) = eval o X.env := by rfl) (hline : (apos.endLine == pos.line) = true := by rfl) :
    PE X (.Call (.Attribute o "join" apos) [e] [] pos) (tD C (d2 fJoin da db)) := pe_to (pe_join ho he hs hbase hline) (id_m1 (fun A G H x y b d Q sm r hd k => by
  cases b with
  | lst ds =>
    obtain ⟨l, h1, hd⟩ := obind (show ((strL ds).bind fun l => if decide ((l.map (·.length)).sum + l.length * x.length ≤ 16777216) then some (D.str (Txt.join x l)) else none) = some d from hd)
    obtain ⟨hc, rfl⟩ := oif hd
    have := strL_eq h1
    subst this
    cases r with
    | @lst p vs _ e ra =>
      have := strs_eq ra
      subst this
      exact ⟨x, p, l, rfl, rfl, .inl (.of (sm _ _ e)), of_decide_eq_true hc, k G H _ (.refl sm) (.str _)⟩
  | _ => cases hd) fun a b d h => by
    cases a with
    | str x => exact ⟨x, rfl⟩
    | _ => cases h)
/-! str(int), int(text) -/
def fStr : List D → Option D
  | [.int i] => if decide (i.natAbs.log2 < 1920) then some (.str (toString i)) else none
  | _ => none
theorem is_strI : IsN C (fun xs H Q => ∃ i : Int, xs = [.int i] ∧ i.natAbs.log2 < 1920 ∧ Q (.str (toString i)) H) fStr := fun A G H xs ds d Q sm r hd k => by
  unfold fStr at hd
  split at hd
  · obtain ⟨hc, rfl⟩ := oif hd
    cases r with
    | cons r1 r2 => cases r2; cases r1; exact ⟨_, rfl, of_decide_eq_true hc, k G H _ (.refl sm) (.str _)⟩
  · cases hd
def fIntA : List D → Option D
  | [.str a] => (PySem.intText? a).bind fun n => if decide (a.length ≤ 640) then some (.int n) else none
  | ds => fInt ds
def rIntA : List V → Hp → VK → Prop := fun xs H Q => ((∃ i, xs = [.int i] ∧ Q (.int i) H) ∨ ∃ k, xs = [.bl k] ∧ Q (.int (if k then 1 else 0)) H) ∨ ∃ a n, xs = [.str a] ∧ PySem.intText? a = some n ∧ a.length ≤ 640 ∧ Q (.int n) H
theorem call_intA : CallR X (.type "int") rIntA := call_int1.or call_int_str
theorem is_intA : IsN C rIntA fIntA := fun A G H xs ds d Q sm r hd k => by
  unfold fIntA at hd
  split at hd
  · obtain ⟨n, h1, hd⟩ := obind hd
    obtain ⟨hc, rfl⟩ := oif hd
    cases r with
    | cons r1 r2 => cases r2; cases r1; exact .inr ⟨_, n, rfl, h1, of_decide_eq_true hc, k G H _ (.refl sm) (.int _)⟩
  · exact .inl (is_int A G H xs ds d Q sm r hd k)
/-! f'..' -/
def fFmt : D → Option Str
  | .str y => if decide (y.length ≤ 100000) then some y else none
  | .int i => if decide (i.natAbs.log2 < 1920) then some (toString i) else none
  | _ => none
/-- the parts of an f-text -/
def dJs : List (List Sl → Option D) → Str → List Sl → Option Str
  | [], acc, _ => some acc
  | t :: ts, acc, ρ => (t ρ).bind fun d => (fFmt d).bind fun y => if decide ((acc ++ y).length ≤ 100000) then dJs ts (acc ++ y) ρ else none
inductive PJD (X : Cx) (C : Addr) : List Expr → List (List Sl → Option D) → Prop where
  | nil : PJD X C [] []
  | cons {e : Expr} {t : List Sl → Option D} {es : List Expr} {ts : List (List Sl → Option D)} (h : PE X e (tD C t)) (hs : ∀ ρ d, t ρ = some d → ∃ y, d = .str y) (r : PJD X C es ts) : PJD X C (e :: es) (t :: ts)
def dFmtV (t : List Sl → Option D) : List Sl → Option D := fun ρ => (t ρ).bind fun d => (fFmt d).bind fun y => some (.str y)
theorem dn_fmt {e : Expr} {t : List Sl → Option D} (h : PE X e (tD C t)) : PE X (.FormattedValue e (-1) none pos) (tD C (dFmtV t)) := pe_to (pe_fmt h) fun σ H Q ⟨A, H0, G, ρ, z, en, sm, hd, k⟩ => by
  obtain ⟨d, h1, hd⟩ := obind hd
  obtain ⟨y, h2, hd⟩ := obind hd
  cases hd
  refine ⟨A, H0, G, ρ, d, en, sm, h1, fun G1 H1 v x1 r1 => ?_⟩
  cases d with
  | str s =>
    cases r1
    obtain ⟨hc, rfl⟩ := oif (show (if decide (s.length ≤ 100000) then some s else none) = some y from h2)
    exact .inl ⟨s, rfl, by have := of_decide_eq_true hc; rw [sizeLine_eq]; omega, k G1 H1 _ x1 (.str _)⟩
  | int i =>
    cases r1
    obtain ⟨hc, rfl⟩ := oif (show (if decide (i.natAbs.log2 < 1920) then some (toString i : Str) else none) = some y from h2)
    exact .inr ⟨i, rfl, of_decide_eq_true hc, k G1 H1 _ x1 (.str _)⟩
  | _ => cases h2
theorem fmtV_str {t : List Sl → Option D} : ∀ ρ d, dFmtV t ρ = some d → ∃ y, d = .str y := fun ρ d h => by
  obtain ⟨d, h1, h⟩ := obind h
  obtain ⟨y, h2, h⟩ := obind h
  cases h
  exact ⟨y, rfl⟩
theorem const_str {x : Str} : ∀ ρ d, dK (.str x) ρ = some d → ∃ y, d = .str y := fun ρ d h => by cases h; exact ⟨x, rfl⟩
theorem PJD.pj {es : List Expr} {ts : List (List Sl → Option D)} (h : PJD X C es ts) : PJ X es (ts.map (tD C ·)) := by
  induction h with
  | nil => exact .nil
  | cons h _ _ ih => exact .cons h ih
theorem js_ok {es : List Expr} {ts : List (List Sl → Option D)} (h : PJD X C es ts) : ∀ (acc : Str) (σ : L2.St) (H : Hp) (Q : Str → Hp → Prop), (∃ A H0 G ρ out, En C A H0 G H σ ρ ∧ Same G H ∧ dJs ts acc ρ = some out ∧ ∀ G' H', Ext G H G' H' → Q out H') → tJs (ts.map (tD C ·)) acc σ H Q := by
  induction h with
  | nil =>
    rintro acc σ H Q ⟨A, H0, G, ρ, out, en, sm, hd, k⟩
    cases hd
    exact k G H (.refl sm)
  | cons h hs _ ih =>
    rintro acc σ H Q ⟨A, H0, G, ρ, out, en, sm, hd, k⟩
    obtain ⟨d, h1, hd⟩ := obind hd
    obtain ⟨y, h2, hd⟩ := obind hd
    obtain ⟨y0, rfl⟩ := hs ρ d h1
    refine ⟨A, H0, G, ρ, _, en, sm, h1, fun G1 H1 v x1 r1 => ?_⟩
    cases r1
    obtain ⟨hc, rfl⟩ := oif (show (if decide (y0.length ≤ 100000) then some y0 else none) = some y from h2)
    split at hd
    · rename_i hz
      exact ⟨y0, rfl, by have := of_decide_eq_true hz; rw [sizeLine_eq]; omega, ih _ _ _ _ ⟨A, H0, G1, ρ, out, en.ext x1, x1.s, hd, fun G' H' x2 => k G' H' (x1.trans x2)⟩⟩
    · cases hd
def dJoined (ts : List (List Sl → Option D)) : List Sl → Option D := fun ρ => (dJs ts Str.empty ρ).bind fun s => some (.str s)
theorem dn_joined {v1 v2 : Expr} {rest : List Expr} {ts : List (List Sl → Option D)} (h : PJD X C (v1 :: v2 :: rest) ts) : PE X (.JoinedStr (v1 :: v2 :: rest) pos) (tD C (dJoined ts)) := pe_to (pe_joined h.pj) fun σ H Q ⟨A, H0, G, ρ, d, en, sm, hd, k⟩ => by
  obtain ⟨s, h1, hd⟩ := obind hd
  cases hd
  exact js_ok h _ _ _ _ ⟨A, H0, G, ρ, s, en, sm, h1, fun G' H' x => k G' H' _ x (.str _)⟩
/-! a dict of the module with texts for keys and ints for values -/
def fKGet2 (kvs : List (Str × Int)) : D → D → Option D
  | .str z, d => some (match kvs.lookup z with
    | some v => .int v
    | none => d)
  | _, _ => none
theorem dn_kget2 {e f : Expr} {x : Str} {apos p : Pos} {aD : Addr} {kvs : List (Str × Int)} {da db : List Sl → Option D} (hg : Gl X x) (hm : X.mg x = some (.ref aD)) (hd : KDi X.K X.w aD kvs) (he : PE X e (tD C da)) (hf : PE X f (tD C db)) (m : M2 X (.Name x p) "get" apos e f pos) (hdb : (x == ("__debug__" : Str)) = false := by decide) :
    PE X (.Call (.Attribute (.Name x p) "get" apos) [e, f] [] pos) (tD C (d2 (fKGet2 kvs) da db)) := pe_to (pe_kget2 (pe_glob (v := .ref aD) hg hm rfl hdb) he hf m) fun σ H Q ⟨A, H0, G, ρ, d, en, sm, hdd, k⟩ => by
  obtain ⟨a, h1, hdd⟩ := obind hdd
  obtain ⟨b, h2, hdd⟩ := obind hdd
  refine ⟨aD, kvs, rfl, hd, A, H0, G, ρ, a, en, sm, h1, fun G1 H1 v x1 r1 => ⟨A, H0, G1, ρ, b, en.ext x1, x1.s, h2, fun G2 H2 u x2 r2 => ?_⟩⟩
  cases a with
  | str z =>
    cases r1
    refine ⟨z, rfl, k G2 H2 _ (x1.trans x2) ?_⟩
    unfold kdOr
    have hdd : (match kvs.lookup z with
      | some v => D.int v
      | none => b) = d := Option.some.inj hdd
    split
    · rename_i w e
      rw [e] at hdd
      subst hdd
      exact .int _
    · rename_i e
      rw [e] at hdd
      subst hdd
      exact r2
  | _ => cases hdd
/-! in a list of ints -/
def fIn : D → D → Option D
  | .int i, .lst ds => (intL ds).bind fun l => some (.bl (inV (.int i) (l.map V.int)))
  | _, _ => none
theorem flat_ints : ∀ l : List Int, (l.map V.int).all flatV = true
  | [] => rfl
  | i :: l => by rw [List.map_cons, List.all_cons, flat_ints l]; rfl
theorem is_in {K : PySem.W.Frag} : Is2 C (rIn K false) fIn := fun A G H x y a b d Q sm ra rb hd k => by
  unfold fIn at hd
  split at hd
  · obtain ⟨l, h1, hd⟩ := obind hd
    cases hd
    cases ra
    cases rb with
    | lst e r =>
      have := intL_rp r h1
      subst this
      exact ⟨_, _, rfl, .inl (.of (sm _ _ e)), rfl, flat_ints l, k G H _ (.refl sm) (.bl _)⟩
  · cases hd
theorem dn_in {a b : Expr} {da db : List Sl → Option D} (ha : PE X a (tD C da)) (hb : PE X b (tD C db)) (hm : behindInMarks .In b = false := by rfl) : PE X (.Compare a [.In] [b] pos) (tD C (d2 fIn da db)) := dn_cmp (r := rIn X.K false) is_in op_in_seq ha hb hm
theorem dt_in {a b : Expr} {da db : List Sl → Option D} (ha : PE X a (tD C da)) (hb : PE X b (tD C db)) (hm : behindInMarks .In b = false := by rfl) : PT X (.Compare a [.In] [b] pos) (tB C (dAsB (d2 fIn da db))) := dt_cmp (r := rIn X.K false) is_in op_in_seq ha hb hm
/-! len of a text -/
def fLenS : List D → Option D
  | [.str x] => if decide (x.length ≤ 100000) then some (.int x.length) else none
  | _ => none
/-! t[:0:-1] -/
def fBackT : D → Option D
  | .tup [_, a] => some (.tup [a])
  | .tup [_, a, b] => some (.tup [b, a])
  | _ => none
theorem dn_backT {e : Expr} {de : List Sl → Option D} {k k0 : Nat} {p0 p1 p2 p3 : Pos} (he : PE X e (tD C de)) : PE X (.Subscript e (.Slice none (some (.Constant (.int 0) k0 p0)) (some (.UnaryOp .USub (.Constant (.int 1) k p1) p2)) p3) pos) (tD C (d1 fBackT de)) :=
  pe_to (pe_backT he) fun σ H Q ⟨A, H0, G, ρ, z, en, sm, hd, k⟩ => by
    obtain ⟨a, h1, hd⟩ := obind hd
    refine ⟨A, H0, G, ρ, a, en, sm, h1, fun G1 H1 x x1 r1 => ?_⟩
    unfold fBackT at hd
    split at hd
    · cases hd
      cases r1 with
      | tup e r => cases r with
        | cons ra r => cases r with
          | cons rb r =>
            cases r
            exact ⟨_, _, _, rfl, .of (x1.s _ _ e), .two _ _, fun p np => k _ _ _ (x1.trans (.new x1.s np _)) (.tup upd_same (.cons (rb.mono (same_new (none_of x1.s np) _)) .nil))⟩
    · cases hd
      cases r1 with
      | tup e r => cases r with
        | cons ra r => cases r with
          | cons rb r => cases r with
            | cons rc r =>
              cases r
              exact ⟨_, _, _, rfl, .of (x1.s _ _ e), .three _ _ _, fun p np => k _ _ _ (x1.trans (.new x1.s np _)) (.tup upd_same (.cons (rc.mono (same_new (none_of x1.s np) _)) (.cons (rb.mono (same_new (none_of x1.s np) _)) .nil)))⟩
    · cases hd
/-! xs.extend(t), xs a list of one's own -/
def sExt (i : Nat) (de : List Sl → Option D) : List Sl → Option Out := fun ρ => (ownD i ρ).bind fun ds => (de ρ).bind fun d => match d with
  | .tup es => if decide (ds.length + es.length ≤ szB) then some (.nx (ρ.set i (.own (ds ++ es)))) else none
  | _ => none
theorem ds_ext {i : Nat} {x : Str} {e : Expr} {de : List Sl → Option D} {apos epos p : Pos} (he : PE X e (tD C de)) (hi : X.N[i]? = some x := by rfl) (hv : Vis X.env.scope x := by first | exact .inl rfl | exact .inr (.inl rfl) | exact .inr (.inr rfl)) (hd : (x == ("__debug__" : Str)) = false := by decide) (hcd : (x == ("__classdict__" : Str)) = false := by decide)
    (hps : ∀ {t : TE}, PE X (.Call (.Attribute (.Name x p) "extend" apos) [e] [] epos) t → PS X (.Expr (.Call (.Attribute (.Name x p) "extend" apos) [e] [] epos) pos) (tDrop t))
    (hpe : ∀ {to : TE} {t : TA}, PE X (.Name x p) to → PA X [e] t → PE X (.Call (.Attribute (.Name x p) "extend" apos) [e] [] epos) (tBM X.K "list" (rExtT X.K) to t))
    (hst : starEach [e] X.env = (false, eval e X.env) :: starEach [] X.env := by rfl) :
    PS X (.Expr (.Call (.Attribute (.Name x p) "extend" apos) [e] [] epos) pos) (tS C (sExt i de)) :=
  ps_to (hps (hpe (pe_var hi hv hd hcd) (pa_cons he pa_nil hst))) fun E σ H ⟨A, G0, H0, G, ρ, o, x0, en, hd, fin⟩ => by
    obtain ⟨ds, h1, hd⟩ := obind hd
    obtain ⟨d, h2, hd⟩ := obind hd
    have ho := ownD_ok h1
    obtain ⟨a, vs, p1, p2, p3, p4, p5, p6⟩ := en.own i ds ho
    refine ⟨_, p1, .inl ⟨rfl, vs, .of p2⟩, A, H0, G, ρ, d, en, x0.s, h2, fun G1 H1 v x1 r1 => ?_⟩
    cases d with
    | tup es =>
      obtain ⟨hz, rfl⟩ := oif (show (if decide (ds.length + es.length ≤ szB) then some (Out.nx (ρ.set i (.own (ds ++ es)))) else none) = some o from hd)
      cases r1 with
      | @tup b us _ e ra =>
        have q2 := x1.h _ _ p2
        have q3 := x1.f _ _ p2 p3
        refine ⟨a, b, vs, us, rfl, rfl, q2, .of (x1.s _ _ e), ?_, ?_⟩
        · rw [p5.len, ra.len]
          have := of_decide_eq_true hz
          unfold szB at this
          rw [sizeLine_eq]; omega
        · exact fin G1 _ σ x1.g (grow_ext (x0.trans x1) q3 p4) ((en.ext x1).grow ho p1 ((p5.mono x1.g).append ra))
    | _ => cases hd
end
end DN

/-! steps of drawings, as the laws make them -/
namespace KG
open PySem PySem.Spec PyProof.Rows L2
structure Stp where
  w : Str
  ns : List Int
def stV (s : Stp) : List V := .str s.w :: s.ns.map V.int
/-- the values are the steps, each a tuple that stands -/
inductive SAt (H : Hp) : List V → List Stp → Prop
  | nil : SAt H [] []
  | cons {t : Addr} {s : Stp} {vs : List V} {ss : List Stp} : H t = some (.tup (stV s)) → SAt H vs ss → SAt H (.ref t :: vs) (s :: ss)
section
variable {H H' : Hp} {vs us : List V} {ss rs : List Stp}
theorem SAt.len (h : SAt H vs ss) : vs.length = ss.length := by
  induction h with
  | nil => rfl
  | cons _ _ ih => rw [List.length_cons, List.length_cons, ih]
theorem SAt.mono (h : SAt H vs ss) (k : ∀ t xs, H t = some (.tup xs) → H' t = some (.tup xs)) : SAt H' vs ss := by
  induction h with
  | nil => exact .nil
  | cons e _ ih => exact .cons (k _ _ e) ih
theorem SAt.same (h : SAt H vs ss) (s : Same H H') : SAt H' vs ss := h.mono fun t xs e => s t _ e
theorem SAt.put {r : Addr} {xs ys : List V} (h : SAt H vs ss) (e : H r = some (.lst xs)) : SAt (upd H r (.lst ys)) vs ss := h.mono fun t zs e2 => by
  rw [upd_ne (ne_of e2 e (by intro z; cases z))]; exact e2
theorem SAt.but {p a : Addr} {ns : List Int} (h : SAt H vs ss) (X : StX H p a ns) (b : But p H H') : SAt H' vs ss := h.mono fun t xs e => b _ _ (fun z => by
  obtain ⟨_, _, _, _, e2, _⟩ := X
  rw [z, e2] at e; cases e) e
theorem SAt.get : ∀ {vs : List V} {ss : List Stp} {i : Nat} {s : Stp}, SAt H vs ss → ss[i]? = some s → ∃ t, vs[i]? = some (.ref t) ∧ H t = some (.tup (stV s))
  | _, _, i, s, .nil, h => by simp at h
  | _, _, 0, s, .cons e _, h => by simp at h; subst h; exact ⟨_, rfl, e⟩
  | _, _, i + 1, s, .cons _ r, h => by
    obtain ⟨t, h1, h2⟩ := SAt.get (i := i) (s := s) r (by simpa using h)
    exact ⟨t, by simpa using h1, h2⟩
theorem SAt.append (h : SAt H vs ss) (k : SAt H us rs) : SAt H (vs ++ us) (ss ++ rs) := by
  induction h with
  | nil => exact k
  | cons e _ ih => exact .cons e ih
theorem SAt.take : ∀ {vs : List V} {ss : List Stp} (n : Nat), SAt H vs ss → SAt H (vs.take n) (ss.take n)
  | _, _, 0, _ => .nil
  | _, _, n + 1, .nil => .nil
  | _, _, n + 1, .cons e r => .cons e (SAt.take n r)
theorem SAt.drop : ∀ {vs : List V} {ss : List Stp} (n : Nat), SAt H vs ss → SAt H (vs.drop n) (ss.drop n)
  | _, _, 0, h => h
  | _, _, n + 1, .nil => .nil
  | _, _, n + 1, .cons _ r => SAt.drop n r
theorem SAt.rep {t : Addr} {s : Stp} (e : H t = some (.tup (stV s))) : ∀ n, SAt H (List.replicate n (.ref t)) (List.replicate n s)
  | 0 => .nil
  | n + 1 => .cons e (SAt.rep e n)
end
/-- whether a step of this word gives a point -/
def isPt (w : Str) : Bool := inV (.str w) [.str "point", .str "meet"]
/-- the forms of steps -/
def SForm (s : Stp) : Prop := (s.w = "point" ∧ s.ns.length = 2) ∨ (s.w = "line" ∧ s.ns.length = 2) ∨ (s.w = "circle" ∧ s.ns.length = 3) ∨ (s.w = "meet" ∧ s.ns.length = 3)
/-- i is the place of a step that gives a point (b), or a figure (not b) -/
def Nm1 (ss : List Stp) (b : Bool) (i : Int) : Prop := 0 ≤ i ∧ ∃ s, ss[i.toNat]? = some s ∧ isPt s.w = b
/-- a step that is drawn by the rules behind ss, its integers within m -/
def SNew (ss : List Stp) (m : Int) (s : Stp) : Prop :=
  (∃ x y, s = ⟨"point", [x, y]⟩ ∧ -m ≤ x ∧ x ≤ m ∧ -m ≤ y ∧ y ≤ m) ∨ (∃ i j, s = ⟨"line", [i, j]⟩ ∧ Nm1 ss true i ∧ Nm1 ss true j) ∨
  (∃ i j k, s = ⟨"circle", [i, j, k]⟩ ∧ Nm1 ss true i ∧ Nm1 ss true j ∧ Nm1 ss true k) ∨ (∃ i j w, s = ⟨"meet", [i, j, w]⟩ ∧ Nm1 ss false i ∧ Nm1 ss false j ∧ 0 ≤ w ∧ w ≤ 1)
theorem SNew.form {ss : List Stp} {m : Int} {s : Stp} (h : SNew ss m s) : SForm s := by
  rcases h with ⟨x, y, rfl, _⟩ | ⟨i, j, rfl, _⟩ | ⟨i, j, k, rfl, _⟩ | ⟨i, j, w, rfl, _⟩
  · exact .inl ⟨rfl, rfl⟩
  · exact .inr (.inl ⟨rfl, rfl⟩)
  · exact .inr (.inr (.inl ⟨rfl, rfl⟩))
  · exact .inr (.inr (.inr ⟨rfl, rfl⟩))
end KG

/-! own errors whose __init__ stores one field -/
namespace KG
open PySem PySem.Spec PyProof.Rows L2
/-- isinstance(e, c), e the exception that the suite holds, with fields of its own -/
def rIsED (K : PySem.W.Frag) (D a : Addr) (cls : Value) (d : Option Addr) : List V → Hp → VK → Prop := fun xs H Q => cls = .ref D ∧ ∃ (dd : Addr) (fs : List (Str × V)) (c : V) (cv : Value) (b : Bool), d = some dd ∧ H dd = some (.xd fs) ∧ xs = [.ref a, c] ∧ (∀ u, RelV c u → u = cv) ∧ PySem.W.kitOne K (.ref D) cv = some b ∧ Q (.bl b) H
theorem call_isED {X : Cx} {a D : Addr} {oe : Obj} {cls : Value} {d : Option Addr} {pn : List (Addr × Obj)} (C : ExcC X.K D) (hcl : (PySem.W.clsIn X.K D).isSome = true) (hz : Zc cls d oe) (hf : ∃ vs, oe.data = .fields vs) : CallR (X.suite a ((a, oe) :: pn)) (.builtin "isinstance") (rIsED X.K D a cls d) := by
  intro pins s σ H xs us Q I r h
  obtain ⟨rfl, dd, fs, c, cv, b, rfl, ed, rfl, hcv, e, q⟩ := h
  obtain ⟨u1, u2, rfl, r1, r2⟩ := vals2 r
  cases (show u1 = Value.ref a from r1)
  have ec := hcv _ r2
  subst ec
  obtain ⟨hget, _⟩ := I.pin (a, oe) (List.mem_append.mpr (.inl List.mem_cons_self))
  obtain ⟨vs, hv⟩ := hf
  have hx : ObjOk X.prog X.w H s.heap dd (.xd fs) := I.hok dd _ ed
  obtain ⟨mA, hns, _⟩ := hx
  obtain ⟨od, ho, _⟩ := lookIn_ns hns
  have J : PySem.W.InstAt s.heap a oe D (some od) := ⟨hget, hz.1, by unfold PySem.W.notCls; rw [hv] <;> rfl, by rw [hz.2]; exact ho⟩
  exact PySem.W.kia_one (PySem.W.kitx_exc hcl C.hg C.hk C.hs C.ha C.hn C.ht C.hm) I.kIn J e (fun z => nomatch z) fun tk => ⟨.bl b, H, I.kept (t' := tk) fun _ _ z => z, rfl, q⟩
/-- what the written part says of an own error of the name x with the field f, below the error at W, below ValueError -/
structure OwnE (K : PySem.W.Frag) (mg : Str → Option Value) (x f : Str) (C fI W : Addr) : Prop where
  gC : mg x = some (.ref C)
  oex : OexC K C
  xf : XfC K C
  is : ExcC K C
  cl : (PySem.W.clsIn K C).isSome = true
  noF : PySem.W.findIn K (.ref C) f = some none
  iC : PySem.W.findIn K (.ref C) "__init__" = some (some (.ref fI))
  tI : PySem.W.typeIn K (.ref fI) = some (.type "function")
  exm : PySem.W.exmOne K (.ref C) (.ref C) = some true
  kW : PySem.W.kitOne K (.ref C) (.ref W) = some true
  kV : PySem.W.kitOne K (.ref C) (.type "ValueError") = some true
theorem kit_ref {K : PySem.W.Frag} {t : Value} {W : Addr} (h1 : PySem.W.isClsIn K W = true) (h2 : PySem.W.typeIn K (.ref W) = some (.type "type")) (h3 : PySem.W.subIn K t (.ref W) = some true) : PySem.W.kitOne K t (.ref W) = some true := by
  have h1' : (PySem.W.clsIn K W).isSome = true := h1
  unfold PySem.W.kitOne
  by_cases z : (t == .ref W) = true
  · rw [if_pos z]
  · rw [if_neg z]
    show (if ((PySem.W.clsIn K W).isSome && PySem.W.typeIn K (.ref W) == some (.type "type")) = true then PySem.W.subIn K t (.ref W) else none) = some true
    rw [if_pos (by rw [h1', h2] <;> rfl), h3]
theorem kit_val {K : PySem.W.Frag} {C : Addr} (h3 : PySem.W.subIn K (.ref C) (.type "ValueError") = some true) : PySem.W.kitOne K (.ref C) (.type "ValueError") = some true := by
  unfold PySem.W.kitOne
  rw [if_neg (show ¬ (Value.ref C == Value.type "ValueError") = true from fun z => nomatch (beq_iff_eq.mp z))]
  show (if PySem.W.kitMeta "ValueError" = true then PySem.W.subIn K (.ref C) (.type "ValueError") else none) = some true
  rw [if_pos (by decide +kernel), h3]
theorem own_mk {K : PySem.W.Frag} {h : Heap} {mg : Str → Option Value} {x f : Str} {C fI W : Addr} (X : K.In h) (G : h.Ns mainGlobals mg) {nm q : Str} {N : Addr} {bs : List Value} {sn : List Str} {sub : List Value} {ab : Bool} {col : Option Bool} {dd : Option Addr} {m0 m1 m2 m3 m5 : Option Value}
    (eC : PySem.W.nsIn K mainGlobals x = some (some (.ref C)))
    (eX : K.lookup C = some (excClassObj nm q C N bs [.ref W, .type "ValueError", .type "Exception", .type "BaseException", .type "object"] true sn sub ab col dd m0 m1 m2 m3 m5 "ValueError.__new__"))
    (e1 : PySem.W.findIn K (.ref C) "__setattr__" = some (some (.builtin "object.__setattr__"))) (e2 : PySem.W.findIn K (.ref C) "__getattribute__" = some (some (.builtin "BaseException.__getattribute__"))) (e3 : PySem.W.findIn K (.ref C) "__getattr__" = some none) (e4 : PySem.W.findIn K (.ref C) f = some none)
    (e5 : PySem.W.findIn K (.ref C) "__init__" = some (some (.ref fI))) (e6 : PySem.W.typeIn K (.ref fI) = some (.type "function")) (e7 : PySem.W.keepIn K (.ref C) = true) (e8 : PySem.W.subIn K (.ref C) (.type "BaseException") = some true) (e9 : PySem.W.typeIn K (.ref C) = some (.type "type")) (e10 : PySem.W.hasDictIn K C = true)
    (e11 : PySem.W.isClsIn K C = true) (e12 : PySem.W.subIn K (.ref C) (.ref C) = some true) (e13 : PySem.W.subIn K (.ref C) (.ref W) = some true) (e14 : PySem.W.typeIn K (.ref W) = some (.type "type")) (e15 : PySem.W.isClsIn K W = true) (e16 : PySem.W.subIn K (.ref C) (.type "ValueError") = some true)
    (e17 : PySem.W.findIn K (.ref C) "__class__" = some (some (.builtin "object.__class__"))) (e18 : PySem.W.specialIn K (.builtin "object.__class__") "__get__" = some (some (.builtin "getset_descriptor.__get__"))) (e19 : PySem.W.takesIn K (.builtin "object.__class__") = some true) (e20 : PySem.W.mroIn K C (.type "object") = some true) : OwnE K mg x f C fI W :=
  { gC := PySem.W.mg_of X G eC, oex := ⟨⟨nm, q, N, bs, _, sn, sub, ab, col, dd, m0, m1, m2, m3, m5, eX, rfl⟩, e1, e8, e9, e7⟩, xf := ⟨e2, e3, e8, e10⟩, is := ⟨e2, e3, e8, e10, e17, e18, e19, e20⟩, cl := e11, noF := e4, iC := e5, tI := e6, exm := PySem.W.exm_ref e8 e10 e9 e12, kW := kit_ref e15 e14 e13, kV := kit_val e16 }
/-- self.f = v, at an exception that is being made -/
def spInit (K : PySem.W.Frag) (f : Str) (C : Addr) : Sp := fun vs H Q _ => ∃ (a : Addr) (v : V), vs = [.ref a, v] ∧ OexC K C ∧ PySem.W.findIn K (.ref C) f = some none ∧ H a = some (exo a C none) ∧
  ∀ dx, H dx = none → dx ≠ a → Q .non (upd (upd H dx (exd dx [(f, v)])) a (exo a C (some dx)))
/-- the i-th statement of a class's body -/
def inCls : Stmt → Nat → Stmt
  | .ClassDef _ _ _ body _ _ _ _ _ _ _, i => body.getD i (.Pass ⟨0, 0, 0, 0⟩)
  | _, _ => .Pass ⟨0, 0, 0, 0⟩
end KG

set_option maxHeartbeats 1000000
/-! what a generated proof is given: classes, methods, makers -/
namespace DN
open PySem PySem.Spec PyProof.Rows L2 KG
/-- the class Number -/
structure NumC (K : PySem.W.Frag) (mg : Str → Option Value) (C : Addr) : Prop where
  nt : NoAttr K C "tower"
  ne : NoAttr K C "element"
  g : mg "Number" = some (.ref C)
  is : IsT K C
  sf : PySem.W.selfFirst K C = true
/-- another class with its fields -/
structure ClsC (K : PySem.W.Frag) (C : Addr) (fs : List Str) : Prop where
  cl : Cls K C
  na : ∀ f ∈ fs, NoAttr K C f
theorem _root_.KG.MCal.op {P : Program} {w : World} {K : PySem.W.Frag} {mg : Str → Option Value} {base : Heap} {k : Nat} {C : Addr} {m : Str} {ps : List Str} {sp : Sp} (c : MCal P w K mg base k C m ps sp) : OpM K C m c.f := ⟨c.m.at_, c.m.fn⟩
/-- objects of class number t may be made -/
structure MkC (P : Program) (w : World) (K : PySem.W.Frag) (mg : Str → Option Value) (base : Heap) (k : Nat) (S : CS) (t : Nat) (x : Str) (ps : List Str) (g : FnS) where
  j : Nat
  lt : j + 1 ≤ k
  f : Addr
  fd : FuncData
  ok : FnOk P w K mg base CX0 j f fd ps (SpS S g)
  b : Binds K fd ps []
  m : Mk K (S.cl t) f
  h : mg x = some (.ref (S.cl t))
/-- .. with one argument left out, an int -/
structure MkD (P : Program) (w : World) (K : PySem.W.Frag) (mg : Str → Option Value) (base : Heap) (k : Nat) (S : CS) (t : Nat) (x : Str) (ps : List Str) (g : FnS) (i : Int) extends MkC P w K mg base k S t x ps g where
  ds : List Value
  bd : Binds K fd ps ds
  vd : Vals [V.int i] ds
theorem int1_rp {C : Addr} {i : Int} : ∀ (A : List Addr) (G : Hp), RpAll C A G [V.int i] [D.int i] := fun _ _ => .cons (.int i) .nil
section
variable {P : Program} {w : World} {K : PySem.W.Frag} {mg : Str → Option Value} {base : Heap}
theorem fnS_denD {Z : CS} {x qual : Str} {st : Stmt} {dvs : List V} {kws : List (Str × V)} {f : Addr} {fd : FuncData} {N ps : List Str} {k : Nat} {den : ZS} (F : FunD K x qual (defArgs st) (defBody st) (defScope st) dvs kws f fd) (S : FnScope N ps (defScope st))
    (hbody : ∀ (cdv : Value) (A : Around) (outer : List Env) (s : Shared) (H : Hp) (E : XK), Room k (A.deeper (envOfC qual (defScope st) s.heap.objs.size f cdv)) →
      PSs (cxOf CX0 P w K mg base N qual (defScope st) f cdv A outer s H E) (defBody st) (tZ Z den)) : FnOk P w K mg base CX0 (k + 1) f fd ps (SpS Z (runS ps.length N.length den)) := by
  have hpl : ps.length ≤ N.length := by have := congrArg List.length S.pre; rw [List.length_take] at this; omega
  refine F.ok S (fun vs H Q E h => ?_) (fun cdv A outer s H vs Q E hr h => ⟨_, hbody cdv A outer s H E hr, ?_⟩)
  · obtain ⟨A, μ, G, ds, d, μ', W, r, hd, _⟩ := h
    unfold runS at hd
    split at hd
    · rename_i hl
      rw [r.len]
      exact beq_iff_eq.mp hl
    · cases hd
  · obtain ⟨A, μ, G, ds, d, μ', W, r, hd, fin⟩ := h
    unfold runS at hd
    split at hd
    · rename_i hl
      obtain ⟨⟨o, μ1⟩, h1, hd⟩ := obind hd
      refine ⟨A, G, H, A, μ, G, _, o, μ1, .refl, start_en W.cel r (by rw [r.len, beq_iff_eq.mp hl]; exact hpl), W, h1, ?_⟩
      cases o with
      | rt d' => cases hd; exact fun A1 G1 H1 v x1 W1 r1 => fin A1 G1 H1 v x1 W1 r1
      | nx ρ => cases hd; exact fun A1 G1 H1 σ1 p1 s1 x1 en1 W1 => fin A1 G1 H1 .non x1 W1 .non
      | bk ρ => cases hd
      | ct ρ => cases hd
    · cases hd
/-- a promise for plain values is one for any world -/
theorem spS_of {S : CS} {f : Addr} {fd : FuncData} {ps : List Str} {k : Nat} {g : List D → Option D} (F : FnOk P w K mg base CX0 k f fd ps (SpD S.cls g)) : FnOk P w K mg base CX0 k f fd ps (SpS S fun ds μ => (g ds).bind fun d => some (d, μ)) := F.imp fun vs H Q E ⟨A, μ, G, ds, d, μ', W, r, hd, k⟩ => by
  obtain ⟨d', h1, hd⟩ := obind hd
  obtain ⟨rfl, rfl⟩ : d' = d ∧ μ = μ' := by cases hd; exact ⟨rfl, rfl⟩
  exact ⟨A, G, ds, d', W.cel, W.same, r, h1, fun G' H' v x r => k A G' H' v (.of x) (W.ext x) r⟩
end
/-- what the proofs over Numbers and cells are given -/
structure CtxN (P : Program) (w : World) (K : PySem.W.Frag) (mg : Str → Option Value) (S : CS) : Prop where
  hP : P = S.P
  hw : w = S.w
  hK : K = S.K
  N : NumC K mg S.cls
  h0 : S.cl 0 = S.cls
theorem NumC.cls {K : PySem.W.Frag} {mg : Str → Option Value} {C : Addr} (n : NumC K mg C) : Cls K C := n.is.cl
section
variable {X : Cx} {S : CS} {pos : Pos}
theorem zs_drop {e : Expr} {de : SD D} (h : PS X (.Expr e pos) (tDrop (zD S de))) : PS X (.Expr e pos) (tZ S (yDrop de)) := ps_to h z_drop
variable {CX : CXT} {k : Nat} {f : Addr} {fd : FuncData} {ps : List Str} {E : XK} {x : Str} {p : Pos} {e : Expr} {es : List Expr}
def zMakeD (t : Nat) (g : FnS) (das : SD (List D)) (dvs : List D) : SD D := fun ρ μ => (das ρ μ).bind fun p => (g (.ref p.2.length :: (p.1 ++ dvs)) (p.2 ++ [.ins t []])).bind fun r => match r.1 with
  | .non => some (.ref p.2.length, r.2)
  | _ => none
theorem zn_makeD {t : Nat} {g : FnS} {das : SD (List D)} {dvs : List D} {dv : List V} {dval : List Value} (M : Mk X.K (S.cl t) f) (F : FnOk X.prog X.w X.K X.mg X.base CX k f fd ps (SpS S g)) (hr : Room (k + 1) X.A) (hg : Gl X x) (hm : X.mg x = some (.ref (S.cl t)))
    (hb : Binds X.K fd ps dval) (hdv : Vals dv dval) (hdr : ∀ A G, RpAll S.cls A G dv dvs) (hx : Passes CX X E)
    (ha : PA X (e :: es) (zA S das)) (hdb : (x == ("__debug__" : Str)) = false := by decide) (he : starEach (e :: es) X.env = (false, eval e X.env) :: starEach es X.env := by rfl) (hpl : (backTo pos (starEach es X.env)).any (·.1) = false := by rfl) :
    PE X (.Call (.Name x p) (e :: es) [] pos) (zD S (zMakeD t g das dvs)) := pe_to (pe_make M F hr hg hm hb hdv hx ha hdb he hpl) fun σ H Q ⟨A, μ, H0, G, ρ, d, μ', en, W, hd, k⟩ => by
  obtain ⟨⟨ds, μ1⟩, h1, hd⟩ := obind hd
  exact ⟨A, μ, H0, G, ρ, ds, μ1, en, W, h1, fun A1 G1 H1 vs x1 W1 r1 a dx ha hdx ne => by
    have := make_ok W1 (r1.append (hdr A1 G1)) hd (fun A' G' H' v x2 W2 r2 => k A' G' H' v (x1.trans x2) W2 r2) (E := E) a dx ha hdx ne
    rwa [List.append_nil] at this⟩
end
section
variable {X : Cx} {S : CS} {pos : Pos} {a b : Expr} {da db : SD D}
theorem zn_shl (ha : PE X a (zD S da)) (hb : PE X b (zD S db)) : PE X (.BinOp a .LShift b pos) (zD S (z2 fShl da db)) := zn_op (is_i2 cShl_ok) op_shlW ha hb
end
end DN

/-! whole numbers as words: what is written for an int, and which words are read -/
namespace KG
open PySem PySem.Spec PyProof.Rows L2
open NumText (AllDigits digitsVal)
def numS (n : Int) : Str := toString n
def dec : List Nat := ("0123456789" : Str).cps.toList
def digs (x : Str) : Str := if cutS x none (some 1) = "-" then cutS x (some 1) none else x
def isWhole (x : Str) : Bool := decide (1 ≤ (digs x).length) && decide ((digs x).length ≤ 30) && (digs x).cps.toList.all (fun c => decide (c ∈ dec)) && (decide (x = "0") || decide ((digs x).cps[0]? ≠ some 48))
theorem cutS_le (z : Str) (lo hi : Option Int) : (cutS z lo hi).length ≤ z.length := by
  show ((z.cps.toList.drop _).take _).toArray.size ≤ z.cps.size
  rw [List.size_toArray, List.length_take, List.length_drop, Array.length_toList]
  omega
theorem digs_le (x : Str) : (digs x).length ≤ x.length := by
  unfold digs
  split
  · exact cutS_le _ _ _
  · exact Nat.le_refl _
/-! signs -/
def bodyL : List Nat → List Nat
  | 45 :: r => r
  | l => l
theorem tl_cut1 (x : Str) : TL.tl (cutS x none (some 1)) = (TL.tl x).take 1 := by
  show ((x.cps.toList.drop 0).take (min 1 x.length - 0)) = _
  rw [List.drop_zero, Nat.sub_zero]
  show x.cps.toList.take (min 1 x.cps.size) = x.cps.toList.take 1
  rw [← Array.length_toList]
  rcases x.cps.toList with _ | ⟨a, r⟩
  · rfl
  · rw [List.length_cons, Nat.min_eq_left (by omega)]
theorem tl_from1 (x : Str) : TL.tl (cutS x (some 1) none) = (TL.tl x).drop 1 := by
  show ((x.cps.toList.drop (min 1 x.length)).take (x.length - min 1 x.length)) = _
  show ((x.cps.toList.drop (min 1 x.cps.size)).take (x.cps.size - min 1 x.cps.size)) = x.cps.toList.drop 1
  rw [← Array.length_toList]
  rcases x.cps.toList with _ | ⟨a, r⟩
  · rfl
  · rw [List.length_cons, Nat.min_eq_left (by omega)]
    exact List.take_of_length_le (by rw [List.length_drop, List.length_cons]; omega)
theorem tl_minus : TL.tl "-" = [45] := by decide +kernel
theorem tl_zero : TL.tl "0" = [48] := by decide +kernel
theorem tl_digs (x : Str) : TL.tl (digs x) = bodyL (TL.tl x) := by
  unfold digs
  by_cases h : cutS x none (some 1) = "-"
  · rw [if_pos h, tl_from1]
    have e := congrArg TL.tl h
    rw [tl_cut1, tl_minus] at e
    rcases hx : TL.tl x with _ | ⟨a, r⟩
    · rfl
    · rw [hx] at e
      obtain rfl : a = 45 := (List.cons.inj e).1
      rfl
  · rw [if_neg h]
    rcases hx : TL.tl x with _ | ⟨a, r⟩
    · rfl
    · have na : a ≠ 45 := fun z => h (TL.ext_tl (by rw [tl_cut1, hx, z, tl_minus]; rfl))
      unfold bodyL
      split
      · rename_i q
        exact absurd (List.cons.inj q).1 na
      · rfl
theorem mem_dec {c : Nat} : c ∈ dec ↔ 48 ≤ c ∧ c ≤ 57 := by
  rw [show dec = [48, 49, 50, 51, 52, 53, 54, 55, 56, 57] by decide +kernel]
  constructor
  · intro h
    simp at h
    omega
  · intro h
    simp
    omega
def canon (l : List Nat) : Prop := bodyL l ≠ [] ∧ (bodyL l).length ≤ 30 ∧ AllDigits (bodyL l) ∧ (l = [48] ∨ (bodyL l).head? ≠ some 48)
theorem whole_iff (x : Str) : isWhole x = true ↔ canon (TL.tl x) := by
  have l1 : (digs x).length = (bodyL (TL.tl x)).length := by rw [TL.len_tl, tl_digs]
  have l2 : (digs x).cps.toList = bodyL (TL.tl x) := tl_digs x
  have l3 : (digs x).cps[0]? = (bodyL (TL.tl x)).head? := by rw [← Array.getElem?_toList, l2, List.head?_eq_getElem?]
  have l4 : x = "0" ↔ TL.tl x = [48] := ⟨fun h => by rw [h, tl_zero], fun h => TL.ext_tl (by rw [h, tl_zero])⟩
  unfold isWhole canon
  rw [l1, l2, l3]
  simp only [Bool.and_eq_true, Bool.or_eq_true, decide_eq_true_eq, List.all_eq_true, l4]
  constructor
  · rintro ⟨⟨⟨h1, h2⟩, h3⟩, h4⟩
    exact ⟨fun e => by rw [e] at h1; exact absurd h1 (by decide), h2, fun c hc => mem_dec.mp (h3 c hc), h4⟩
  · rintro ⟨h1, h2, h3, h4⟩
    exact ⟨⟨⟨List.length_pos_iff.mpr h1, h2⟩, fun c hc => mem_dec.mpr (h3 c hc)⟩, h4⟩
theorem val_snoc (l : List Nat) (c : Nat) : digitsVal (l ++ [c]) = digitsVal l * 10 + (c - 48) := by
  unfold digitsVal
  rw [List.foldl_append]; rfl
theorem val_mono : ∀ (l : List Nat) (a : Nat), a ≤ l.foldl (fun acc c => acc * 10 + (c - 48)) a
  | [], _ => Nat.le_refl _
  | c :: r, a => Nat.le_trans (by omega) (val_mono r (a * 10 + (c - 48)))
theorem val_pos {l : List Nat} (h : AllDigits l) (h1 : l ≠ []) (h2 : l.head? ≠ some 48) : 1 ≤ digitsVal l := by
  cases l with
  | nil => exact absurd rfl h1
  | cons c r =>
    have hc := h.head
    have : c ≠ 48 := fun z => h2 (by rw [z]; rfl)
    unfold digitsVal
    rw [List.foldl_cons]
    exact Nat.le_trans (by omega) (val_mono r _)
theorem val_lt : ∀ (n : Nat) (l : List Nat), l.length ≤ n → AllDigits l → digitsVal l < 10 ^ n := by
  intro n
  induction n with
  | zero =>
    intro l hl h
    have : l = [] := List.length_eq_zero_iff.mp (by omega)
    rw [this]; decide
  | succ n ih =>
    intro l hl h
    by_cases e : l = []
    · rw [e]; exact Nat.pos_of_ne_zero (by simp [digitsVal])
    · have hd := List.dropLast_concat_getLast e
      have hc := h (l.getLast e) (List.getLast_mem e)
      have h1 := ih l.dropLast (by rw [List.length_dropLast]; omega) (fun c hc => h c (List.dropLast_subset _ hc))
      rw [← hd, val_snoc, Nat.pow_succ]
      omega
theorem num_val : ∀ (n : Nat) (l : List Nat), l.length ≤ n → AllDigits l → l ≠ [] → (l = [48] ∨ l.head? ≠ some 48) → TL.numL (digitsVal l) = l := by
  intro n
  induction n with
  | zero =>
    intro l hl h h1
    exact absurd (List.length_eq_zero_iff.mp (by omega)) h1
  | succ n ih =>
    intro l hl h h1 h2
    have hd := List.dropLast_concat_getLast h1
    have hc := h (l.getLast h1) (List.getLast_mem h1)
    generalize l.getLast h1 = c at hd hc
    generalize hr : l.dropLast = r at hd
    have lr : r.length ≤ n := by rw [← hr, List.length_dropLast]; omega
    have hrd : AllDigits r := fun d q => h d (by rw [← hd]; exact List.mem_append_left _ q)
    rw [← hd, val_snoc]
    cases r with
    | nil =>
      show TL.numL (0 * 10 + (c - 48)) = [c]
      rw [TL.numL_lt (by omega)]
      congr 1; omega
    | cons a q =>
      have h3 : (a :: q).head? ≠ some 48 := by
        rcases h2 with h2 | h2
        · rw [← hd] at h2
          exact absurd (congrArg List.length h2) (by simp)
        · rw [← hd] at h2
          exact h2
      have hp := val_pos hrd (by simp) h3
      rw [TL.numL_step (by omega), show (digitsVal (a :: q) * 10 + (c - 48)) / 10 = digitsVal (a :: q) by omega, show 48 + (digitsVal (a :: q) * 10 + (c - 48)) % 10 = c by omega, ih _ lr hrd (by simp) (.inr h3)]
def signs (n : Int) : List Nat := if n < 0 then 45 :: TL.numL n.natAbs else TL.numL n.natAbs
theorem tl_numS (n : Int) : TL.tl (numS n) = signs n := by
  unfold signs
  by_cases h : n < 0
  · rw [if_pos h]
    obtain ⟨m, rfl⟩ : ∃ m : Nat, n = Int.negSucc m := ⟨(-n - 1).toNat, by omega⟩
    have e : toString (Int.negSucc m) = "-" ++ toString (((m + 1 : Nat) : Int)) := rfl
    show (Str.ofString (toString (Int.negSucc m))).cps.toList = _
    rw [e]
    have e2 : ∀ a b : String, (Str.ofString (a ++ b)).cps.toList = (Str.ofString a).cps.toList ++ (Str.ofString b).cps.toList := fun a b => by
      rw [Str.ofString_eq_toList, Str.ofString_eq_toList, Str.ofString_eq_toList]
      show (a ++ b).toList.map Char.toNat = a.toList.map Char.toNat ++ b.toList.map Char.toNat
      rw [String.toList_append, List.map_append]
    rw [e2]
    show _ ++ TL.tl (Str.ofString (toString (((m + 1 : Nat) : Int)))) = _
    rw [TL.tl_num]; rfl
  · rw [if_neg h]
    obtain ⟨m, rfl⟩ := Int.eq_ofNat_of_zero_le (show 0 ≤ n by omega)
    exact TL.tl_num m
theorem numL_head {n : Nat} (h : n ≠ 0) : (TL.numL n).head? ≠ some 48 := by
  induction n using Nat.strongRecOn with
  | _ n ih =>
    by_cases h1 : n < 10
    · rw [TL.numL_lt h1]
      intro z
      have := Option.some.inj z
      omega
    · rw [TL.numL_step (by omega), List.head?_append]
      have := ih (n / 10) (by omega) (by omega)
      cases hq : (TL.numL (n / 10)).head? with
      | none => exact absurd (List.head?_eq_none_iff.mp hq) (TL.numL_ne _)
      | some z =>
        rw [hq] at this
        exact this
theorem bodyL_num (n : Nat) : bodyL (TL.numL n) = TL.numL n := by
  unfold bodyL
  split
  · rename_i r q
    exact absurd (show 45 ∈ TL.numL n by rw [q]; exact List.mem_cons_self) (TL.numL_free (.inl (by decide)))
  · rfl
theorem body_signs (n : Int) : bodyL (signs n) = TL.numL n.natAbs := by
  unfold signs
  by_cases h : n < 0
  · rw [if_pos h]; rfl
  · rw [if_neg h]; exact bodyL_num _
theorem canon_signs {n : Int} (h : n.natAbs < 10 ^ 30) : canon (signs n) := by
  unfold canon
  rw [body_signs]
  refine ⟨TL.numL_ne _, TL.numL_len (by decide) h, TL.numL_digits _, ?_⟩
  by_cases h0 : n = 0
  · rw [h0]; exact .inl (by decide +kernel)
  · exact .inr (numL_head (by omega))
theorem whole_num {n : Int} (h : n.natAbs < 10 ^ 30) : isWhole (numS n) = true := (whole_iff _).mpr (by rw [tl_numS]; exact canon_signs h)
theorem canon_read {x : Str} (h : isWhole x = true) : ∃ n : Int, intText? x = some n ∧ numS n = x ∧ n.natAbs < 10 ^ 30 ∧ x.length ≤ 31 := by
  obtain ⟨h1, h2, h3, h4⟩ := (whole_iff x).mp h
  have hv := val_lt 30 _ h2 h3
  by_cases hm : ∃ r, TL.tl x = 45 :: r
  · obtain ⟨r, hr⟩ := hm
    have hb : bodyL (TL.tl x) = r := by rw [hr]; rfl
    rw [hb] at h1 h2 h3 h4 hv
    have h4' : r.head? ≠ some 48 := by
      rcases h4 with h4 | h4
      · rw [hr] at h4
        exact absurd (List.cons.inj h4).1 (by decide)
      · exact h4
    have lx : x.length = r.length + 1 := by rw [TL.len_tl, hr, List.length_cons]
    have hp := val_pos h3 h1 h4'
    refine ⟨_, intText_neg hr h3 h1 (by omega), TL.ext_tl ?_, by omega, by omega⟩
    rw [tl_numS, signs, if_pos (by omega), hr, show (-((digitsVal r : Nat) : Int)).natAbs = digitsVal r by omega, num_val 30 r h2 h3 h1 (.inr h4')]
  · have hb : bodyL (TL.tl x) = TL.tl x := by
      unfold bodyL
      split
      · rename_i r q
        exact absurd ⟨r, q⟩ hm
      · rfl
    rw [hb] at h1 h2 h3 h4 hv
    have lx : x.length = (TL.tl x).length := TL.len_tl x
    refine ⟨_, intText_digits h3 h1 (by omega), TL.ext_tl ?_, by show ((digitsVal (TL.tl x) : Nat) : Int).natAbs < _; omega, by omega⟩
    rw [tl_numS, signs, if_neg (by show ¬ ((digitsVal (TL.tl x) : Nat) : Int) < 0; omega)]
    show TL.numL (digitsVal (TL.tl x)) = _
    exact num_val 30 _ h2 h3 h1 h4
theorem numS_inj {m n : Int} (h : numS m = numS n) : m = n := by
  have e := congrArg TL.tl h
  rw [tl_numS, tl_numS] at e
  have e2 := congrArg bodyL e
  rw [body_signs, body_signs] at e2
  have e3 := TL.numL_inj e2
  unfold signs at e
  by_cases h1 : m < 0 <;> by_cases h2 : n < 0
  · omega
  · rw [if_pos h1, if_neg h2] at e
    exact absurd (show 45 ∈ TL.numL n.natAbs by rw [← e]; exact List.mem_cons_self) (TL.numL_free (.inl (by decide)))
  · rw [if_neg h1, if_pos h2] at e
    exact absurd (show 45 ∈ TL.numL m.natAbs by rw [e]; exact List.mem_cons_self) (TL.numL_free (.inl (by decide)))
  · omega
theorem read_num {n : Int} (h : n.natAbs < 10 ^ 30) : intText? (numS n) = some n := by
  obtain ⟨m, h1, h2, _⟩ := canon_read (whole_num h)
  rw [h1, numS_inj h2]
theorem removeprefix_digs (x : Str) : Txt.removeprefix x "-" = digs x := by
  apply TL.ext_tl
  rw [tl_digs]
  unfold Txt.removeprefix
  have lm : ("-" : Str).length = 1 := by decide +kernel
  have es : Builtin.Str.subAt x "-" 0 = decide ((TL.tl x).take 1 = [45]) := by
    rw [StrLaws.subAt_eq, List.drop_zero, lm]
    show ((TL.tl x).take 1 == TL.tl "-") = _
    rw [tl_minus, Bool.eq_iff_iff]; simp
  rw [es, lm]
  rcases hx : TL.tl x with _ | ⟨a, r⟩
  · show TL.tl x = []
    exact hx
  · have lx : x.length = r.length + 1 := by rw [TL.len_tl, hx, List.length_cons]
    by_cases h : a = 45
    · subst h
      rw [if_pos (by simp)]
      show TL.tl (if x.length - 1 == x.length then x else Builtin.Str.strSub x 1 x.length) = r
      rw [if_neg (by rw [beq_iff_eq]; omega)]
      show (Builtin.Str.strSub x 1 x.length).cps.toList = r
      rw [StrLaws.strSub_toList]
      show ((TL.tl x).drop 1).take (x.length - 1) = r
      rw [hx, lx]
      exact List.take_of_length_le (by simp)
    · rw [if_neg (by simp [h])]
      show TL.tl x = bodyL (a :: r)
      rw [hx]
      unfold bodyL
      split
      · rename_i q
        exact absurd (List.cons.inj q).1 h
      · rfl
end KG

set_option maxHeartbeats 1000000
/-! d.get(int): d a dict of the module with ints for keys and texts for values -/
namespace DN
open PySem PySem.Spec PyProof.Rows L2 KG
inductive EsI : List DictEntry → List (Int × Str) → Prop
  | nil : EsI [] []
  | cons {k : Int} {v : Str} {t u : Tok} {l : List DictEntry} {r : List (Int × Str)} : EsI l r → EsI (⟨hashInt k, .int k t, .str v u⟩ :: l) ((k, v) :: r)
def KDj (K : PySem.W.Frag) (w : World) (d : Addr) (kvs : List (Int × Str)) : Prop := ∃ es n, K.lookup d = some ⟨.type "dict", none, .dict es n, #[]⟩ ∧ EsI es.toList kvs ∧ (d == sysModules) = false
theorem EsI.key {l : List DictEntry} {r : List (Int × Str)} (h : EsI l r) : ∀ e ∈ l, ∃ k t, e.key = .int k t ∧ e.hash = hashInt k := by
  induction h with
  | nil => intro e he; cases he
  | cons _ ih =>
    intro e he
    rcases List.mem_cons.mp he with rfl | he
    · exact ⟨_, _, rfl, rfl⟩
    · exact ih e he
theorem EsI.find {l : List DictEntry} {r : List (Int × Str)} (h : EsI l r) (z : Int) : ((r.lookup z = none ∧ (l.find? fun e => Value.isInt z e.key).map (·.val) = none) ∨ ∃ v u, r.lookup z = some v ∧ (l.find? fun e => Value.isInt z e.key).map (·.val) = some (.str v u)) := by
  induction h with
  | nil => exact .inl ⟨rfl, rfl⟩
  | @cons k v t u l r _ ih =>
    by_cases e : k = z
    · refine .inr ⟨v, u, ?_, ?_⟩
      · rw [List.lookup_cons, show (z == k) = true by rw [e]; exact beq_self_eq_true z]
      · rw [List.find?_cons, show Value.isInt z (Value.int k t) = true from by show (k == z) = true; rw [e]; exact beq_self_eq_true z]; rfl
    · have e1 : (z == k) = false := by rw [beq_eq_false_iff_ne]; exact fun q => e q.symm
      have e2 : (k == z) = false := by rw [beq_eq_false_iff_ne]; exact e
      rw [List.lookup_cons, e1, List.find?_cons, show Value.isInt z (Value.int k t) = false from e2]
      exact ih
def kjOr (kvs : List (Int × Str)) (z : Int) (d : V) : V := match kvs.lookup z with
  | some v => .str v
  | none => d
theorem KDj.found {K : PySem.W.Frag} {w : World} {d : Addr} {kvs : List (Int × Str)} (h : KDj K w d kvs) {X : Cx} {pins : List (Addr × Obj)} {σ : L2.St} {H : Hp} {s : Shared} (I : Inv X pins σ H s) (eK : X.K = K) (eW : X.w = w) (z : Int) :
    (d == sysModules) = false ∧ ∃ f, s.heap.MapOf (intKind X.prog X.w) d f ∧ (∀ (b : Value), Value.ref d = b → s.TypeIs b "dict" ∧ ∀ a, b = .ref a → ∃ ob, s.heap.get? a = some ob ∧ ob.dict = none) ∧ ∀ (df : V) (dv : Value), RelV df dv → RelV (kjOr kvs z df) ((f z).getD dv) := by
  subst eK eW
  obtain ⟨es, n, hl, he, low⟩ := h
  have hm : s.heap.MapOf (intKind X.prog X.w) d (fun k => findBy Value.isInt es k) := ⟨_, es, n, I.kIn _ _ hl, ⟨rfl, rfl, rfl⟩, rfl, fun e he' => by
    obtain ⟨x, t, e1, e2⟩ := he.key e (Array.mem_toList_iff.mpr he')
    exact ⟨x, by rw [e1]; exact intKind_is X.prog X.w x t, e2⟩, fun _ => rfl⟩
  refine ⟨low, _, hm, ?_, ?_⟩
  · rintro b rfl
    refine ⟨hm.typeIs, ?_⟩
    rintro a e
    cases e
    exact ⟨_, I.kIn _ _ hl, rfl⟩
  · intro df dv hd
    show RelV (kjOr kvs z df) (((es.find? fun e => Value.isInt z e.key).map (·.val)).getD dv)
    rw [← Array.find?_toList]
    unfold kjOr
    rcases he.find z with ⟨e1, e2⟩ | ⟨v, u, e1, e2⟩
    · rw [e1, e2]; exact hd
    · rw [e1, e2]; exact ⟨u, rfl⟩
def tKGetJ (K : PySem.W.Frag) (w : World) (td ty : TE) : TE := fun σ H Q => td σ H fun x H1 => ∃ a kvs, x = .ref a ∧ KDj K w a kvs ∧ ty σ H1 fun y H2 => ∃ z, y = .int z ∧ Q (kjOr kvs z .non) H2
section
variable {X : Cx} {C : Addr} {pos : Pos}
theorem pe_kgetJ {o e : Expr} {apos cpos : Pos} {td ty : TE} (ho : PE X o td) (he : PE X e ty) (m : M1 X o "get" apos e cpos) : PE X (.Call (.Attribute o "get" apos) [e] [] cpos) (tKGetJ X.K X.w td ty) := by
  constructor
  intro pins s σ H Q I h
  refine wpAny_Call_method m.base m.few m.line PySem.F.plainAttrs_dict PySem.F.slot_dict_get PySem.F.type_dict_get (thn (ho.run pins s σ H _ I h) ?_)
  rintro u s1 ⟨x, H1, I1, rx, a, kvs, rfl, d, q1⟩
  cases (show u = Value.ref a from rx)
  obtain ⟨_, _, _, t1, _⟩ := d.found I1 rfl rfl 0
  obtain ⟨t1, t2⟩ := t1 _ rfl
  refine ⟨t1, t2, ?_⟩
  rw [m.trees]
  refine Calls.callWith_builtin rfl (Calls.evalArgs_plain (Calls.spliced_cons (thn (he.run pins s1 σ H1 _ I1 q1) ?_)))
  rintro iv s2 ⟨y, H2, I2, ry, z, rfl, q2⟩
  refine Calls.spliced_nil ?_
  obtain ⟨t, rfl⟩ := ry
  obtain ⟨low, f, hm, _, hv⟩ := d.found I2 rfl rfl z
  exact call_meetsIn PySem.F.slot_dict_get hm.typeIs PySem.F.entry_dict_get (PySem.F.args_dict_get_2 _ _) (meets_dict_get (intKind X.prog X.w) a (intKind_is X.prog X.w z t) low) ⟨f, hm, _, H2, I2.tok _, hv .non .none rfl, q2⟩
def fKGetI (kvs : List (Int × Str)) : D → Option D
  | .int z => some (match kvs.lookup z with
    | some v => .str v
    | none => .non)
  | _ => none
theorem dn_kgetI {e : Expr} {x : Str} {apos p : Pos} {aD : Addr} {kvs : List (Int × Str)} {da : List Sl → Option D} (hg : Gl X x) (hm : X.mg x = some (.ref aD)) (hd : KDj X.K X.w aD kvs) (he : PE X e (tD C da)) (m : M1 X (.Name x p) "get" apos e pos) (hdb : (x == ("__debug__" : Str)) = false := by decide) :
    PE X (.Call (.Attribute (.Name x p) "get" apos) [e] [] pos) (tD C (d1 (fKGetI kvs) da)) := pe_to (pe_kgetJ (pe_glob (v := .ref aD) hg hm rfl hdb) he m) fun σ H Q ⟨A, H0, G, ρ, d, en, sm, hdd, k⟩ => by
  obtain ⟨a, h1, hdd⟩ := obind hdd
  refine ⟨aD, kvs, rfl, hd, A, H0, G, ρ, a, en, sm, h1, fun G1 H1 v x1 r1 => ?_⟩
  cases a with
  | int z =>
    cases r1
    refine ⟨z, rfl, k G1 H1 _ x1 ?_⟩
    unfold kjOr
    have hdd : (match kvs.lookup z with
      | some v => D.str v
      | none => .non) = d := Option.some.inj hdd
    split
    · rename_i w e
      rw [e] at hdd
      subst hdd
      exact .str _
    · rename_i e
      rw [e] at hdd
      subst hdd
      exact .non
  | _ => cases hdd
theorem is_lenS : IsN C (fun xs H Q => ∃ x, xs = [.str x] ∧ x.length ≤ sizeLine ∧ Q (.int x.length) H) fLenS := fun A G H xs ds d Q sm r hd k => by
  unfold fLenS at hd
  split at hd
  · obtain ⟨hc, rfl⟩ := oif hd
    cases r with
    | cons r1 r2 => cases r2; cases r1; exact ⟨_, rfl, by have := of_decide_eq_true hc; rw [sizeLine_eq]; omega, k G H _ (.refl sm) (.int _)⟩
  · cases hd
end
section
variable {X : Cx} {C : Addr} {pos : Pos} {CX : CXT} {k : Nat} {f : Addr} {fd : FuncData} {ps : List Str} {g : List D → Option D} {E : XK} {x : Str} {p : Pos}
theorem dn_call0 (F : FnOk X.prog X.w X.K X.mg X.base CX k f fd ps (SpD C g)) (hr : Room k X.A) (hg : Gl X x) (hm : X.mg x = some (.ref f)) (hk : PySem.W.keepIn X.K (.ref f) = true) (hb : Binds X.K fd ps []) (hx : Passes CX X E) (hdb : (x == ("__debug__" : Str)) = false := by decide) :
    PE X (.Call (.Name x p) [] [] pos) (tD C (dCall g a0)) := pe_to (pe_call0 F hr hg hm hk hb .nil hx hdb) fun σ H Q ⟨A, H0, G, ρ, d, en, sm, hd, k⟩ => by
  obtain ⟨ds, h1, hd⟩ := obind hd
  cases h1
  exact ⟨A, G, [], d, en.cel, sm, .nil, hd, fun G' H' v x r => k G' H' v x r⟩
end
/-- a def that uses cells, and whose answer knows none of them -/
def pln (g : FnS) : List D → Option D := fun ds => if noRefs ds then (g ds []).bind fun r => if noRef r.1 then some r.1 else none else none
theorem spD_pln {S : CS} {g : FnS} {P : Program} {w : World} {K : PySem.W.Frag} {mg : Str → Option Value} {base : Heap} {k : Nat} {f : Addr} {fd : FuncData} {ps : List Str} (F : FnOk P w K mg base CX0 k f fd ps (SpS S g)) : FnOk P w K mg base CX0 k f fd ps (SpD S.cls (pln g)) := F.imp fun vs H Q E ⟨A, G, ds, d, cl, sm, r, hd, kk⟩ => by
  unfold pln at hd
  obtain ⟨hn, hd⟩ : noRefs ds = true ∧ ((g ds []).bind fun r => if noRef r.1 then some r.1 else none) = some d := by
    split at hd
    · rename_i hn; exact ⟨hn, hd⟩
    · cases hd
  obtain ⟨⟨q, μ'⟩, h2, hd⟩ := obind hd
  obtain ⟨hq, rfl⟩ := oif hd
  have W0 : Wd S [] [] G H := ⟨sm, rfl, List.nodup_nil, fun i a c h => by simp at h⟩
  exact ⟨[], [], G, ds, q, μ', W0, r.noRef hn, h2, fun A' G' H' v x3 W3 r3 => kk G' H' v ⟨x3.g, W3.same, fun b o q => x3.h b o (fun z => by cases z) q, x3.f⟩ (r3.noRef hq)⟩
/-! integer_of -/
def fWord : List D → Option D
  | [.str x] => if decide (x.length ≤ 100000) then (if isWhole x then (PySem.intText? x).bind fun n => if numS n = x then some (.int n) else none else some .non) else none
  | _ => none
end DN

set_option maxHeartbeats 1000000
/-! how the written defs, methods and classes of a law are handed on -/
namespace DN
open PySem PySem.Spec PyProof.Rows L2 KG
/-- a def of the text -/
structure DefE (K : PySem.W.Frag) (mg : Str → Option Value) (x : Str) (st : Stmt) (ps : List Str) where
  f : Addr
  fd : FuncData
  F : Fun K x x st f fd
  b : Binds K fd ps []
  m : mg x = some (.ref f)
  kp : PySem.W.keepIn K (.ref f) = true
/-- a method of a class -/
structure MetE (K : PySem.W.Frag) (C : Addr) (m qual : Str) (st : Stmt) (ps : List Str) where
  f : Addr
  fd : FuncData
  F : Fun K m qual st f fd
  b : Binds K fd ps []
  m : Meth K C m f
section
variable {P : Program} {w : World} {K : PySem.W.Frag} {mg : Str → Option Value} {base : Heap} {k j : Nat} {x m qual : Str} {st : Stmt} {ps : List Str} {sp : Sp} {C : Addr}
def DefE.cal (d : DefE K mg x st ps) (ok : FnOk P w K mg base CX0 k d.f d.fd ps sp) : Cal P w K mg base k x ps sp := ⟨d.f, d.fd, ok, d.b, d.m, d.kp⟩
def MetE.cal (d : MetE K C m qual st ps) (ok : FnOk P w K mg base CX0 k d.f d.fd ps sp) : MCal P w K mg base k C m ps sp := ⟨d.f, d.fd, ok, d.b, d.m⟩
def _root_.KG.Cal.lift (c : Cal P w K mg base j x ps sp) (h : j ≤ k) : Cal P w K mg base k x ps sp := { c with ok := c.ok.mono h }
def _root_.KG.MCal.lift (c : MCal P w K mg base j C m ps sp) (h : j ≤ k) : MCal P w K mg base k C m ps sp := { c with ok := c.ok.mono h }
def MkC.lift {S : CS} {t : Nat} {g : FnS} (c : MkC P w K mg base j S t x ps g) (h : j ≤ k) : MkC P w K mg base k S t x ps g := { c with lt := Nat.le_trans c.lt h }
def MkD.lift {S : CS} {t : Nat} {g : FnS} {i : Int} (c : MkD P w K mg base j S t x ps g i) (h : j ≤ k) : MkD P w K mg base k S t x ps g i := { c with lt := Nat.le_trans c.lt h }
theorem fn_none {f : Addr} {fd : FuncData} {g : List D → Option D} (h : ∀ ds, g ds = none) : FnOk P w K mg base CX0 k f fd ps (SpD C g) :=
  ⟨fun vs H Q E ⟨A, G, ds, d, _, _, _, hd, _⟩ => by rw [h] at hd; (cases hd), fun A outer s H args us vs Q E _ _ _ _ ⟨_, G, ds, d, _, _, _, hd, _⟩ => by rw [h] at hd; cases hd⟩
theorem def_mk {h : Heap} {f : Addr} {oc : Value} {od an : Option Addr} {osl : Array (Option Value)} {kV doc pm cdv ct : Value} (X : K.In h) (G : h.Ns mainGlobals mg) (a : PySem.W.nsIn K mainGlobals x = some (some (.ref f)))
    (l : K.lookup f = some ⟨oc, od, .func (PySem.W.fnOf x x (defArgs st) (defBody st) (defScope st) .none kV doc pm an cdv ct), osl⟩) (c : PySem.W.codeIn K cdv x = true) (kp : PySem.W.keepIn K (.ref f) = true)
    (h : ∀ (kV doc pm : Value) (an : Option Addr) (cdv ct : Value) (us : List Value), us.length = ps.length → bindArgs (PySem.W.fnOf x x (defArgs st) (defBody st) (defScope st) .none kV doc pm an cdv ct) ⟨us, []⟩ = pure (ps.zip us)) : Nonempty (DefE K mg x st ps) :=
  ⟨⟨f, _, fun_mk l c kp, (fun_mk l c kp).binds h, PySem.W.mg_of X G a, kp⟩⟩
theorem met_mk {f : Addr} {oc : Value} {od an : Option Addr} {osl : Array (Option Value)} {kV doc pm cdv ct : Value} (a : PySem.W.findIn K (.ref C) m = some (some (.ref f))) (fn : PySem.W.isFn K (.ref f) = true)
    (l : K.lookup f = some ⟨oc, od, .func (PySem.W.fnOf m qual (defArgs st) (defBody st) (defScope st) .none kV doc pm an cdv ct), osl⟩) (c : PySem.W.codeIn K cdv qual = true) (kp : PySem.W.keepIn K (.ref f) = true)
    (h : ∀ (kV doc pm : Value) (an : Option Addr) (cdv ct : Value) (us : List Value), us.length = ps.length → bindArgs (PySem.W.fnOf m qual (defArgs st) (defBody st) (defScope st) .none kV doc pm an cdv ct) ⟨us, []⟩ = pure (ps.zip us)) : Nonempty (MetE K C m qual st ps) :=
  ⟨⟨f, _, fun_mk l c kp, (fun_mk l c kp).binds h, ⟨a, fn, kp⟩⟩⟩
/-- what a law's def promises: True -/
def splaw (K : PySem.W.Frag) : Sp := fun vs H Q _ => ∃ (a : Addr) (ns : List Int), vs = [.ref a] ∧ SqL K H a (ns.map V.int) ∧ ns.length ≤ 63 ∧ ∀ H', Q (.bl true) H'
end
end DN

/-! the addresses that a head's facts need, each once -/
namespace DN
open PySem PySem.Spec PyProof.Rows L2
inductive MT where
  | nil
  | node (b : Bool) (l r : MT)
def MT.has : MT → Nat → Bool
  | .nil, _ => false
  | .node b l r, i => match Nat.beq i 0 with
    | true => b
    | false => match Nat.beq (i % 2) 1 with
      | true => l.has (i / 2)
      | false => r.has (i / 2 - 1)
def MT.ins : Nat → MT → Nat → MT
  | 0, t, _ => t
  | f + 1, .nil, i => match Nat.beq i 0 with
    | true => .node true .nil .nil
    | false => match Nat.beq (i % 2) 1 with
      | true => .node false (MT.ins f .nil (i / 2)) .nil
      | false => .node false .nil (MT.ins f .nil (i / 2 - 1))
  | f + 1, .node b l r, i => match Nat.beq i 0 with
    | true => .node true l r
    | false => match Nat.beq (i % 2) 1 with
      | true => .node b (MT.ins f l (i / 2)) r
      | false => .node b l (MT.ins f r (i / 2 - 1))
def visitB (lo : Nat) : List Addr → MT → List Addr → (MT → List Addr → List Addr) → List Addr
  | [], t, nw, k => k t nw
  | a :: r, t, nw, k => match Nat.ble lo a with
    | true => (match t.has a with
      | true => visitB lo r t nw k
      | false => visitB lo r (t.ins 24 a) (a :: nw) k)
    | false => visitB lo r t nw k
def frontB (lo : Nat) (g : Addr → Option Obj) : List Addr → MT → List Addr → (MT → List Addr → List Addr) → List Addr
  | [], t, nw, k => k t nw
  | a :: r, t, nw, k => match g a with
    | some o => visitB lo (He.refsD o) t nw fun t nw => frontB lo g r t nw k
    | none => frontB lo g r t nw k
def bfsB (lo : Nat) (g : Addr → Option Obj) : Nat → List Addr → MT → List Addr
  | 0, fr, _ => fr
  | n + 1, fr, t => fr ++ frontB lo g fr t [] fun t nw => bfsB lo g n nw t
def adrB (g : Addr → Option Obj) (n : Nat) : List Addr := bfsB 0 g n [mainGlobals] (MT.ins 24 .nil mainGlobals)
end DN

set_option maxHeartbeats 1000000
/-! a head by facts, for defs, methods, classes and tables -/
namespace DN
open PySem PySem.Spec PyProof.Rows L2 KG
def entI (e : DictEntry) : Option (Str × Int × Int) := match e.key, e.val with
  | .str x _, .int v _ => some (x, e.hash, v)
  | _, _ => none
def entJ (e : DictEntry) : Option (Int × Int × Str) := match e.key, e.val with
  | .int x _, .str v _ => some (x, e.hash, v)
  | _, _ => none
def tabOf (K : PySem.W.Frag) (a : Addr) : Option (List DictEntry) := match K.lookup a with
  | some ⟨.type c, none, .dict es _, sl⟩ => (match decide (c = "dict") && (sl.isEmpty && !(a == sysModules)) with
    | true => some es.toList
    | false => none)
  | _ => none
theorem tabOf_ok {K : PySem.W.Frag} {a : Addr} {l : List DictEntry} (h : tabOf K a = some l) : ∃ es n, K.lookup a = some ⟨.type "dict", none, .dict es n, #[]⟩ ∧ es.toList = l ∧ (a == sysModules) = false := by
  unfold tabOf at h
  split at h
  · rename_i c es n sl q
    split at h
    · rename_i z
      obtain ⟨z1, z2⟩ := He.ba z
      obtain ⟨z3, z4⟩ := He.ba z2
      have e1 : c = "dict" := of_decide_eq_true z1
      have e2 : sl = #[] := Array.isEmpty_iff.mp z3
      subst e1 e2
      cases h
      exact ⟨es, n, q, rfl, by cases y : a == sysModules with
        | false => rfl
        | true => rw [y] at z4; cases z4⟩
    · cases h
  · cases h
def tabI (K : PySem.W.Frag) (a : Addr) : Option (List (Option (Str × Int × Int))) := (tabOf K a).map fun l => l.map entI
def valI (P : Params) (kvs : List (Str × Int)) : List (Option (Str × Int × Int)) := kvs.map fun q => some (q.1, PyData.keyHash P q.1, q.2)
theorem esAt_of {P : Params} : ∀ {l : List DictEntry} {kvs : List (Str × Int)}, l.map entI = valI P kvs → EsAt P l kvs
  | [], [], _ => .nil
  | [], _ :: _, h => by cases h
  | _ :: _, [], h => by cases h
  | ⟨hs, k, v⟩ :: r, (x, i) :: kvs, h => by
    have h1 : entI ⟨hs, k, v⟩ :: r.map entI = some (x, PyData.keyHash P x, i) :: valI P kvs := h
    injection h1 with h2 h3
    have ih := esAt_of h3
    unfold entI at h2
    split at h2
    · rename_i a b c d q1 q2
      simp only at q1 q2 h2
      subst q1 q2
      simp only [Option.some.injEq, Prod.mk.injEq] at h2
      obtain ⟨e1, e2, e3⟩ := h2
      subst e1 e3
      rw [show hs = _ from e2]
      exact .cons ih
    · cases h2
theorem tabI_ok {K : PySem.W.Frag} {w : World} {a : Addr} {kvs : List (Str × Int)} (h : tabI K a = some (valI w.params kvs)) : KDi K w a kvs := by
  unfold tabI at h
  rw [Option.map_eq_some_iff] at h
  obtain ⟨l, h1, h2⟩ := h
  obtain ⟨es, n, q, e, s⟩ := tabOf_ok h1
  exact ⟨es, n, q, by rw [e]; exact esAt_of h2, s⟩
def tabJ (K : PySem.W.Frag) (a : Addr) (kvs : List (Int × Str)) : Bool := decide ((tabOf K a).map (fun l => l.map entJ) = some (kvs.map fun q => some (q.1, hashInt q.1, q.2)))
theorem esI_of : ∀ {l : List DictEntry} {kvs : List (Int × Str)}, l.map entJ = kvs.map (fun q => some (q.1, hashInt q.1, q.2)) → EsI l kvs
  | [], [], _ => .nil
  | [], _ :: _, h => by cases h
  | _ :: _, [], h => by cases h
  | ⟨hs, k, v⟩ :: r, (x, i) :: kvs, h => by
    have h1 : entJ ⟨hs, k, v⟩ :: r.map entJ = some (x, hashInt x, i) :: kvs.map (fun q => some (q.1, hashInt q.1, q.2)) := h
    injection h1 with h2 h3
    have ih := esI_of h3
    unfold entJ at h2
    split at h2
    · rename_i a b c d q1 q2
      simp only at q1 q2 h2
      subst q1 q2
      simp only [Option.some.injEq, Prod.mk.injEq] at h2
      obtain ⟨e1, e2, e3⟩ := h2
      subst e1 e3
      rw [show hs = _ from e2]
      exact .cons ih
    · cases h2
theorem tabJ_ok {K : PySem.W.Frag} {w : World} {a : Addr} {kvs : List (Int × Str)} (h : tabJ K a kvs = true) : KDj K w a kvs := by
  have h := of_decide_eq_true h
  rw [Option.map_eq_some_iff] at h
  obtain ⟨l, h1, h2⟩ := h
  obtain ⟨es, n, q, e, s⟩ := tabOf_ok h1
  exact ⟨es, n, q, by rw [e]; exact esI_of h2, s⟩
/-! the Hook -/
abbrev Tb : Type := Str × List (Str × Int)
abbrev AlH : Type := He.AlD × Bool × List (Option (List (Option (Str × Int × Int))))
def obsH (fa : List He.Fa) (fn : List He.DefD) (ex : List (PySem.W.Frag → Bool)) (ts : List Tb) (K : PySem.W.Frag) : AlH := (He.obsD fa fn K, ex.all fun e => e K, ts.map fun t => tabI K (He.ga K t.1))
def valH (fn : List He.DefD) (ts : List Tb) (w : World) : AlH := (He.valD fn, true, ts.map fun t => some (valI w.params t.2))
def obsHG (n : Nat) (fa : List He.Fa) (fn : List He.DefD) (ex : List (PySem.W.Frag → Bool)) (ts : List Tb) (g : Addr → Option Obj) : AlH := obsH fa fn ex ts (He.frG g (adrB g n))
def SaysH (fa : List He.Fa) (fn : List He.DefD) (ex : List (PySem.W.Frag → Bool)) (ts : List Tb) (w : World) (K : PySem.W.Frag) : Prop := obsH fa fn ex ts K = valH fn ts w
def hookH (n : Nat) (fa : List He.Fa) (fn : List He.DefD) (ex : List (PySem.W.Frag → Bool)) (ts : List Tb) : PySem.W.Hook where
  α := AlH
  obs := fun s => obsHG n fa fn ex ts s.heap.get?
  val := fun w => valH fn ts w
  says := fun w h => ∃ K : PySem.W.Frag, K.In h ∧ SaysH fa fn ex ts w K
  of := fun _ _ e => ⟨_, He.frG_in, e⟩
  keeps := fun _ _ _ ⟨K, hK, c⟩ k => ⟨K, PySem.W.Frag.In.keeps hK k, c⟩
theorem obsHG_eq {n : Nat} {fa : List He.Fa} {fn : List He.DefD} {ex : List (PySem.W.Frag → Bool)} {ts : List Tb} {g : Addr → Option Obj} {s : Shared} (h : ∀ a, g a = s.heap.get? a) : obsHG n fa fn ex ts g = (hookH n fa fn ex ts).obs s := by
  have e : g = s.heap.get? := funext h
  rw [e] <;> rfl
/-- the two halves of what is looked at -/
def obsA (n : Nat) (fa : List He.Fa) (fn : List He.DefD) (g : Addr → Option Obj) : He.AlD := He.obsD fa fn (He.frG g (adrB g n))
def obsX (n : Nat) (ex : List (PySem.W.Frag → Bool)) (ts : List Tb) (g : Addr → Option Obj) : Bool × List (Option (List (Option (Str × Int × Int)))) := (ex.all fun e => e (He.frG g (adrB g n)), ts.map fun t => tabI (He.frG g (adrB g n)) (He.ga (He.frG g (adrB g n)) t.1))
/-- the run, to its end -/
noncomputable abbrev endW (M : Nat) (r : PySem.W.OpenRow) (w : World) := HandSHeadRun.wholeF (fun p => HandSHeadRun.stepQ (HandSHeadRun.denQ HandSHeadRun.tabQ) p w) HandSHeadRun.fenceQ M r.prog
/-- the run's equation out of two runs -/
theorem run_two {r : PySem.W.OpenRow} {q : Program} {n M : Nat} {fa : List He.Fa} {fn : List He.DefD} {ex : List (PySem.W.Frag → Bool)} {ts : List Tb} {loose : List PySem.Str} {w : World}
    (h1 : (endW M r w).map (fun x => (HandSHeadRun.looksF r.prog x.1.heap x.2.abs, HandSHeadRun.seenQ q loose (importedModules r.prog.main.body) (fun s => PySem.W.xlAt q [] s && PySem.W.recOk r.toRowW.records s) x.2.abs, obsX n ex ts (HandSHeadRun.getT x.2))) = some (true, PySem.W.openGood q loose, (true, ts.map fun t => some (valI w.params t.2))))
    (h2 : (endW M r w).map (fun x => obsA n fa fn (HandSHeadRun.getT x.2)) = some (He.valD fn)) :
    HandSHeadRun.RunEqI r q (hookH n fa fn ex ts) (fun s => obsHG n fa fn ex ts (HandSHeadRun.getT s)) M loose w := by
  unfold HandSHeadRun.RunEqI
  obtain ⟨x, e1, e2⟩ := Option.map_eq_some_iff.mp h2
  change endW M r w = some x at e1
  rw [e1] at h1
  have h1' := Option.some.inj h1
  obtain ⟨a1, a2⟩ := Prod.mk.inj h1'
  obtain ⟨a2, a3⟩ := Prod.mk.inj a2
  obtain ⟨a3, a4⟩ := Prod.mk.inj a3
  have e : HandSHeadRun.wholeF (fun p => HandSHeadRun.stepQ (HandSHeadRun.denQ HandSHeadRun.tabQ) p w) HandSHeadRun.fenceQ M r.prog = some x := e1
  rw [e]
  refine congrArg some (Prod.ext a1 (Prod.ext a2 ?_))
  exact Prod.ext e2 (Prod.ext a3 a4)
section
variable {fa : List He.Fa} {fn : List He.DefD} {ex : List (PySem.W.Frag → Bool)} {ts : List Tb} {w : World} {K : PySem.W.Frag}
theorem SaysH.d (c : SaysH fa fn ex ts w K) : He.SaysD fa fn K := congrArg (fun z : AlH => z.1) c
theorem SaysH.x (c : SaysH fa fn ex ts w K) (i : Nat) {e : PySem.W.Frag → Bool} (h : ex[i]? = some e := by rfl) : e K = true :=
  List.all_eq_true.mp (show (ex.all fun e => e K) = true from congrArg (fun z : AlH => z.2.1) c) e (List.mem_of_getElem? h)
theorem SaysH.tab (c : SaysH fa fn ex ts w K) (i : Nat) {t : Tb} (h : ts[i]? = some t := by rfl) : KDi K w (He.ga K t.1) t.2 := by
  have e : ts.map (fun t => tabI K (He.ga K t.1)) = ts.map fun t => some (valI w.params t.2) := congrArg (fun z : AlH => z.2.2) c
  have e2 : (ts.map fun t => tabI K (He.ga K t.1))[i]? = (ts.map fun t => some (valI w.params t.2))[i]? := by rw [e]
  rw [List.getElem?_map, List.getElem?_map, h] at e2
  exact tabI_ok (Option.some.inj e2)
theorem fun_ofD {x qual : Str} {st : Stmt} {f : Addr} {fd : FuncData} (F : He.DefD → Prop := fun _ => True) (G : FunD K x qual (defArgs st) (defBody st) (defScope st) [] [] f fd) : Fun K x qual st f fd := by
  obtain ⟨⟨oc, od, dV, kV, doc, pm, an, cdv, ct, osl, e, lk, hcd, hD, _⟩, kp⟩ := G
  have hd : dV = .none := by
    rcases hD with h | h
    · first | exact h | exact h.2
    · exact absurd rfl h.1
  subst hd
  exact ⟨⟨oc, od, kV, doc, pm, an, cdv, ct, osl, e, lk, hcd⟩, kp⟩
theorem def_mkH {mg : Str → Option Value} {x : Str} {st : Stmt} {ps : List Str} (FD : ∃ fd, FunD K x x (defArgs st) (defBody st) (defScope st) [] [] (He.ga K x) fd) (m : mg x = some (.ref (He.ga K x)))
    (h : ∀ (kV doc pm : Value) (an : Option Addr) (cdv ct : Value) (us : List Value), us.length = ps.length → bindArgs (PySem.W.fnOf x x (defArgs st) (defBody st) (defScope st) .none kV doc pm an cdv ct) ⟨us, []⟩ = pure (ps.zip us)) : Nonempty (DefE K mg x st ps) := by
  obtain ⟨fd, G⟩ := FD
  have F := fun_ofD (F := fun _ => True) G
  exact ⟨⟨_, fd, F, F.binds h, m, G.kp⟩⟩
theorem met_mkH {C : Addr} {x qual : Str} {st : Stmt} {ps : List Str} (FD : ∃ fd, FunD K x qual (defArgs st) (defBody st) (defScope st) [] [] (He.ma K C x) fd) (m : Meth K C x (He.ma K C x))
    (h : ∀ (kV doc pm : Value) (an : Option Addr) (cdv ct : Value) (us : List Value), us.length = ps.length → bindArgs (PySem.W.fnOf x qual (defArgs st) (defBody st) (defScope st) .none kV doc pm an cdv ct) ⟨us, []⟩ = pure (ps.zip us)) : Nonempty (MetE K C x qual st ps) := by
  obtain ⟨fd, G⟩ := FD
  have F := fun_ofD (F := fun _ => True) G
  exact ⟨⟨_, fd, F, F.binds h, m⟩⟩
end
/-- what is checked of the class Number besides -/
def numX (x : Str) : List (PySem.W.Frag → Bool) := [
  fun K => He.eqO (PySem.W.findIn K (.ref (He.ga K x)) "__class__") (some (some (.builtin "object.__class__"))),
  fun K => He.eqO (PySem.W.specialIn K (.builtin "object.__class__") "__get__") (some (some (.builtin "getset_descriptor.__get__"))),
  fun K => decide (PySem.W.takesIn K (.builtin "object.__class__") = some true),
  fun K => decide (PySem.W.mroIn K (He.ga K x) (.type "object") = some true),
  fun K => decide (PySem.W.kitOne K (.ref (He.ga K x)) (.ref (He.ga K x)) = some true),
  fun K => ["NoneType", "bool", "int", "str", "tuple", "list"].all fun T => decide (PySem.W.kitOne K (.type T) (.ref (He.ga K x)) = some false),
  fun K => PySem.W.selfFirst K (He.ga K x)]
theorem isT_of {K : PySem.W.Frag} {x : Str} (cl : Cls K (He.ga K x)) (h : ∀ (i : Nat) (e : PySem.W.Frag → Bool), (numX x)[i]? = some e → e K = true) : IsT K (He.ga K x) ∧ PySem.W.selfFirst K (He.ga K x) = true :=
  ⟨⟨cl, He.eqO_ok (h 0 _ rfl), He.eqO_ok (h 1 _ rfl), of_decide_eq_true (h 2 _ rfl), of_decide_eq_true (h 3 _ rfl), of_decide_eq_true (h 4 _ rfl), fun T hT => of_decide_eq_true (List.all_eq_true.mp (h 5 _ rfl) T hT)⟩, h 6 _ rfl⟩
end DN

namespace KW
open DN
abbrev zeroD : D := .tup [.tup [.int 0], .int 1]
end KW

/-! tables of the module that are tuples, compared with; what is never reached -/
namespace DN
open PySem PySem.Spec PyProof.Rows L2 KG
/-- the module's name x is a tuple of such data -/
structure GTup (K : PySem.W.Frag) (mg : Str → Option Value) (x : Str) (a : Addr) (z : D) : Prop where
  m : mg x = some (.ref a)
  sh : SeqAt.shaped (toP z) = true
  dp : ∀ H : Hp, Dp K H (.ref a) (toP z)
def fEqG (z a : D) : Option D := if noNum a && SeqAt.shaped (toP a) then some (.bl (PyData.eqv (toP a) (toP z))) else none
def fNeG (z a : D) : Option D := if noNum a && SeqAt.shaped (toP a) then some (.bl (!PyData.eqv (toP a) (toP z))) else none
section
variable {X : Cx} {C : Addr} {S : CS} {pos : Pos}
theorem is_eqG {x : Str} {aZ : Addr} {z : D} (g : GTup X.K X.mg x aZ z) : Is1 C (fun v H Q => rEqD X.K v (.ref aZ) H Q) (fEqG z) := fun A G H x a d Q sm ra hd k => by
  unfold fEqG at hd
  split at hd
  · rename_i h
    rw [Bool.and_eq_true] at h
    cases hd
    exact ⟨_, _, ra.dp sm h.1, g.dp H, h.2, g.sh, k G H _ (.refl sm) (.bl _)⟩
  · cases hd
theorem is_neG {x : Str} {aZ : Addr} {z : D} (g : GTup X.K X.mg x aZ z) : Is1 C (fun v H Q => rNeD X.K v (.ref aZ) H Q) (fNeG z) := fun A G H x a d Q sm ra hd k => by
  unfold fNeG at hd
  split at hd
  · rename_i h
    rw [Bool.and_eq_true] at h
    cases hd
    exact ⟨_, _, ra.dp sm h.1, g.dp H, h.2, g.sh, k G H _ (.refl sm) (.bl _)⟩
  · cases hd
variable {a : Expr} {p : Pos} {x : Str} {aZ : Addr} {z : D} {da : List Sl → Option D} {ea : SD D}
theorem dn_eqG (hu : X.A.units + 64 < cLine) (hg : Gl X x) (g : GTup X.K X.mg x aZ z) (ha : PE X a (tD C da)) (hd : (x == ("__debug__" : Str)) = false := by decide) : PE X (.Compare a [.Eq] [.Name x p] pos) (tD C (d1 (fEqG z) da)) :=
  pe_to (pe_cmpR (op_eqD hu) ha (pe_glob (v := .ref aZ) hg g.m rfl hd) (nomark _)) (is1 (is_eqG g) da)
theorem dn_neG (hu : X.A.units + 64 < cLine) (hg : Gl X x) (g : GTup X.K X.mg x aZ z) (ha : PE X a (tD C da)) (hd : (x == ("__debug__" : Str)) = false := by decide) : PE X (.Compare a [.NotEq] [.Name x p] pos) (tD C (d1 (fNeG z) da)) :=
  pe_to (pe_cmpR (op_neD hu) ha (pe_glob (v := .ref aZ) hg g.m rfl hd) (nomark _)) (is1 (is_neG g) da)
theorem dt_eqG (hu : X.A.units + 64 < cLine) (hg : Gl X x) (g : GTup X.K X.mg x aZ z) (ha : PE X a (tD C da)) (hd : (x == ("__debug__" : Str)) = false := by decide) : PT X (.Compare a [.Eq] [.Name x p] pos) (tB C (dAsB (d1 (fEqG z) da))) :=
  pt_to (pt_cmpR (op_eqD hu) ha (pe_glob (v := .ref aZ) hg g.m rfl hd) (nomark _)) (test_of (is1 (is_eqG g) da))
theorem dt_neG (hu : X.A.units + 64 < cLine) (hg : Gl X x) (g : GTup X.K X.mg x aZ z) (ha : PE X a (tD C da)) (hd : (x == ("__debug__" : Str)) = false := by decide) : PT X (.Compare a [.NotEq] [.Name x p] pos) (tB C (dAsB (d1 (fNeG z) da))) :=
  pt_to (pt_cmpR (op_neD hu) ha (pe_glob (v := .ref aZ) hg g.m rfl hd) (nomark _)) (test_of (is1 (is_neG g) da))
theorem zn_eqG (hu : X.A.units + 64 < cLine) (hg : Gl X x) (g : GTup X.K X.mg x aZ z) (ha : PE X a (zD S ea)) (hd : (x == ("__debug__" : Str)) = false := by decide) : PE X (.Compare a [.Eq] [.Name x p] pos) (zD S (z1 (fEqG z) ea)) :=
  pe_to (pe_cmpR (op_eqD hu) ha (pe_glob (v := .ref aZ) hg g.m rfl hd) (nomark _)) (iz1 (is_eqG g) ea)
theorem zt_eqG (hu : X.A.units + 64 < cLine) (hg : Gl X x) (g : GTup X.K X.mg x aZ z) (ha : PE X a (zD S ea)) (hd : (x == ("__debug__" : Str)) = false := by decide) : PT X (.Compare a [.Eq] [.Name x p] pos) (zB S (zAsB (z1 (fEqG z) ea))) :=
  pt_to (pt_cmpR (op_eqD hu) ha (pe_glob (v := .ref aZ) hg g.m rfl hd) (nomark _)) (ztest_of (iz1 (is_eqG g) ea))
theorem zt_neG (hu : X.A.units + 64 < cLine) (hg : Gl X x) (g : GTup X.K X.mg x aZ z) (ha : PE X a (zD S ea)) (hd : (x == ("__debug__" : Str)) = false := by decide) : PT X (.Compare a [.NotEq] [.Name x p] pos) (zB S (zAsB (z1 (fNeG z) ea))) :=
  pt_to (pt_cmpR (op_neD hu) ha (pe_glob (v := .ref aZ) hg g.m rfl hd) (nomark _)) (ztest_of (iz1 (is_neG g) ea))
/-- never reached -/
def zNev : SD D := fun _ _ => none
theorem zn_nev {e : Expr} : PE X e (zD S zNev) := pe_to pe_nev fun σ H Q ⟨A, μ, H0, G, ρ, d, μ', en, W, hd, k⟩ => by cases hd
end
/-! such a tuple in the head's facts -/
mutual
def dpB (K : PySem.W.Frag) : Nat → Value → D → Bool
  | 0, _, _ => false
  | n + 1, v, d => match d with
    | .int i => (match v with
      | .int j _ => decide (j = i)
      | _ => false)
    | .str x => (match v with
      | .str y _ => decide (y = x)
      | _ => false)
    | .tup ds => (match v with
      | .ref a => (match K.lookup a with
        | some ⟨.type c, _, .seq its _, _⟩ => decide (c = "tuple") && (decide (its.size ≤ sizeLine) && dpBs K n its.toList ds)
        | _ => false)
      | _ => false)
    | _ => false
def dpBs (K : PySem.W.Frag) : Nat → List Value → List D → Bool
  | 0, _, _ => false
  | n + 1, vs, ds => match vs, ds with
    | [], [] => true
    | v :: vs, d :: ds => dpB K n v d && dpBs K n vs ds
    | _, _ => false
end
theorem dpB_ok {K : PySem.W.Frag} : ∀ (n : Nat),
    (∀ (v : Value) (d : D), dpB K n v d = true → ∃ x : V, RelV x v ∧ ∀ H : Hp, Dp K H x (toP d)) ∧
    (∀ (vs : List Value) (ds : List D), dpBs K n vs ds = true → ∃ xs : List V, Vals xs vs ∧ ∀ H : Hp, DpAll K H xs (toPs ds))
  | 0 => ⟨fun v d h => by simp [dpB] at h, fun vs ds h => by simp [dpBs] at h⟩
  | n + 1 => by
    obtain ⟨ih1, ih2⟩ := dpB_ok (K := K) n
    refine ⟨fun v d h => ?_, fun vs ds h => ?_⟩
    · unfold dpB at h
      split at h
      · split at h
        · rename_i i j t
          have e := of_decide_eq_true h
          subst e
          exact ⟨.int j, ⟨t, rfl⟩, fun H => .int j⟩
        · cases h
      · split at h
        · rename_i i j t
          have e := of_decide_eq_true h
          subst e
          exact ⟨.str j, ⟨t, rfl⟩, fun H => .str j⟩
        · cases h
      · split at h
        · rename_i ds a
          split at h
          · rename_i c od its m sl q
            obtain ⟨h1, h2⟩ := He.ba h
            obtain ⟨h3, h4⟩ := He.ba h2
            have e := of_decide_eq_true h1
            subst e
            obtain ⟨xs, v1, v2⟩ := ih2 _ _ h4
            exact ⟨.ref a, rfl, fun H => .tup (.inr ⟨_, its, m, q, rfl, rfl, of_decide_eq_true h3, v1⟩) (v2 H)⟩
          · cases h
        · cases h
      · cases h
    · unfold dpBs at h
      split at h
      · exact ⟨[], .nil, fun H => .nil⟩
      · obtain ⟨h1, h2⟩ := He.ba h
        obtain ⟨x, r1, r2⟩ := ih1 _ _ h1
        obtain ⟨xs, r3, r4⟩ := ih2 _ _ h2
        exact ⟨x :: xs, .cons r1 r3, fun H => .cons (r2 H) (r4 H)⟩
      · cases h
/-- the fact: the global x is a tuple of such data -/
def gtupB (x : Str) (z : D) (K : PySem.W.Frag) : Bool := SeqAt.shaped (toP z) && dpB K 9 (.ref (He.ga K x)) z
theorem gtup_ok {K : PySem.W.Frag} {mg : Str → Option Value} {x : Str} {z : D} (m : mg x = some (.ref (He.ga K x))) (h : gtupB x z K = true) : GTup K mg x (He.ga K x) z := by
  obtain ⟨h1, h2⟩ := He.ba h
  obtain ⟨v, r1, r2⟩ := (dpB_ok 9).1 _ _ h2
  refine ⟨m, h1, fun H => ?_⟩
  have e : v = .ref (He.ga K x) := by
    cases v with
    | ref b => exact congrArg V.ref (Value.ref.inj (show Value.ref (He.ga K x) = Value.ref b from r1)).symm
    | non => exact nomatch (show Value.ref (He.ga K x) = Value.none from r1)
    | bl b => exact nomatch (show Value.ref (He.ga K x) = Value.bool b from r1)
    | int i => obtain ⟨t, e⟩ := (show ∃ t, Value.ref (He.ga K x) = Value.int i t from r1); cases e
    | str i => obtain ⟨t, e⟩ := (show ∃ t, Value.ref (He.ga K x) = Value.str i t from r1); cases e
    | byt i => obtain ⟨t, e⟩ := (show ∃ t, Value.ref (He.ga K x) = Value.bytes i t from r1); cases e
    | flt i => obtain ⟨t, e⟩ := (show ∃ t, Value.ref (He.ga K x) = Value.float i t from r1); cases e
    | ty i => exact nomatch (show Value.ref (He.ga K x) = Value.type i from r1)
  rw [← e]
  exact r2 H
end DN

set_option maxHeartbeats 0
namespace KW
open PySem PySem.Spec PyProof.Rows L2 KG DN
def ddlaw : He.DefD := ⟨("law", none), "law", "law", defArgs (topS 120), defBody (topS 120), defScope (topS 120), [], []⟩
def dd_law_state : He.DefD := ⟨("_law_state", none), "_law_state", "_law_state", defArgs (topS 99), defBody (topS 99), defScope (topS 99), [], []⟩
def dd_law_take : He.DefD := ⟨("_law_take", none), "_law_take", "_law_take", defArgs (topS 100), defBody (topS 100), defScope (topS 100), [], []⟩
def ddplus : He.DefD := ⟨("plus", none), "plus", "plus", defArgs (topS 3), defBody (topS 3), defScope (topS 3), [], []⟩
def ddminus : He.DefD := ⟨("minus", none), "minus", "minus", defArgs (topS 4), defBody (topS 4), defScope (topS 4), [], []⟩
def ddtimes : He.DefD := ⟨("times", none), "times", "times", defArgs (topS 5), defBody (topS 5), defScope (topS 5), [], []⟩
def ddpadded : He.DefD := ⟨("padded", none), "padded", "padded", defArgs (topS 6), defBody (topS 6), defScope (topS 6), [], []⟩
def ddmultiplied : He.DefD := ⟨("multiplied", none), "multiplied", "multiplied", defArgs (topS 8), defBody (topS 8), defScope (topS 8), [], []⟩
def ddlowest : He.DefD := ⟨("lowest", none), "lowest", "lowest", defArgs (topS 11), defBody (topS 11), defScope (topS 11), [], []⟩
def ddinverse : He.DefD := ⟨("inverse", none), "inverse", "inverse", defArgs (topS 12), defBody (topS 12), defScope (topS 12), [], []⟩
def ddelement_sum : He.DefD := ⟨("element_sum", none), "element_sum", "element_sum", defArgs (topS 13), defBody (topS 13), defScope (topS 13), [], []⟩
def ddelement_difference : He.DefD := ⟨("element_difference", none), "element_difference", "element_difference", defArgs (topS 14), defBody (topS 14), defScope (topS 14), [], []⟩
def ddelement_product : He.DefD := ⟨("element_product", none), "element_product", "element_product", defArgs (topS 15), defBody (topS 15), defScope (topS 15), [], []⟩
def dd_shares : He.DefD := ⟨("_shares", none), "_shares", "_shares", defArgs (topS 19), defBody (topS 19), defScope (topS 19), [], []⟩
def dd_chosen : He.DefD := ⟨("_chosen", none), "_chosen", "_chosen", defArgs (topS 20), defBody (topS 20), defScope (topS 20), [], []⟩
def ddtrimmed : He.DefD := ⟨("trimmed", none), "trimmed", "trimmed", defArgs (topS 18), defBody (topS 18), defScope (topS 18), [], []⟩
def ddbound : He.DefD := ⟨("bound", none), "bound", "bound", defArgs (topS 23), defBody (topS 23), defScope (topS 23), [], []⟩
def dd_unit : He.DefD := ⟨("_unit", none), "_unit", "_unit", defArgs (topS 24), defBody (topS 24), defScope (topS 24), [], []⟩
def dd_root : He.DefD := ⟨("_root", none), "_root", "_root", defArgs (topS 25), defBody (topS 25), defScope (topS 25), [], []⟩
def dd_scaled : He.DefD := ⟨("_scaled", none), "_scaled", "_scaled", defArgs (topS 26), defBody (topS 26), defScope (topS 26), [], []⟩
def dd_bases : He.DefD := ⟨("_bases", none), "_bases", "_bases", defArgs (topS 31), defBody (topS 31), defScope (topS 31), [], []⟩
def dd_count_below_first : He.DefD := ⟨("_count_below_first", none), "_count_below_first", "_count_below_first", defArgs (topS 32), defBody (topS 32), defScope (topS 32), [], []⟩
def ddplace_of : He.DefD := ⟨("place_of", none), "place_of", "place_of", defArgs (topS 33), defBody (topS 33), defScope (topS 33), [], []⟩
def ddwidened : He.DefD := ⟨("widened", none), "widened", "widened", defArgs (topS 45), defBody (topS 45), defScope (topS 45), [], []⟩
def ddimage : He.DefD := ⟨("image", none), "image", "image", defArgs (topS 46), defBody (topS 46), defScope (topS 46), [], []⟩
def ddimage_of_element : He.DefD := ⟨("image_of_element", none), "image_of_element", "image_of_element", defArgs (topS 47), defBody (topS 47), defScope (topS 47), [], []⟩
def ddjoined : He.DefD := ⟨("joined", none), "joined", "joined", defArgs (topS 48), defBody (topS 48), defScope (topS 48), [], []⟩
def ddprimitive : He.DefD := ⟨("primitive", none), "primitive", "primitive", defArgs (topS 56), defBody (topS 56), defScope (topS 56), [], []⟩
def ddcharacteristic : He.DefD := ⟨("characteristic", none), "characteristic", "characteristic", defArgs (topS 59), defBody (topS 59), defScope (topS 59), [], []⟩
def dd_polynomial_root : He.DefD := ⟨("_polynomial_root", none), "_polynomial_root", "_polynomial_root", defArgs (topS 61), defBody (topS 61), defScope (topS 61), [], []⟩
def dd_least_terms : He.DefD := ⟨("_least_terms", none), "_least_terms", "_least_terms", defArgs (topS 62), defBody (topS 62), defScope (topS 62), [], []⟩
def dd_degree : He.DefD := ⟨("_degree", none), "_degree", "_degree", defArgs (topS 63), defBody (topS 63), defScope (topS 63), [], []⟩
def ddleast_polynomial : He.DefD := ⟨("least_polynomial", none), "least_polynomial", "least_polynomial", defArgs (topS 64), defBody (topS 64), defScope (topS 64), [], []⟩
def ddleast_field : He.DefD := ⟨("least_field", none), "least_field", "least_field", defArgs (topS 65), defBody (topS 65), defScope (topS 65), [], []⟩
def dd_rank : He.DefD := ⟨("_rank", none), "_rank", "_rank", defArgs (topS 69), defBody (topS 69), defScope (topS 69), [], []⟩
def dd_all_in_one_tower : He.DefD := ⟨("_all_in_one_tower", none), "_all_in_one_tower", "_all_in_one_tower", defArgs (topS 71), defBody (topS 71), defScope (topS 71), [], []⟩
def ddall_together : He.DefD := ⟨("all_together", none), "all_together", "all_together", defArgs (topS 70), defBody (topS 70), defScope (topS 70), [], []⟩
def ddnumber_in : He.DefD := ⟨("number_in", none), "number_in", "number_in", defArgs (topS 74), defBody (topS 74), defScope (topS 74), [], []⟩
def dd_shortest : He.DefD := ⟨("_shortest", none), "_shortest", "_shortest", defArgs (topS 81), defBody (topS 81), defScope (topS 81), [], []⟩
def dd_alike : He.DefD := ⟨("_alike", none), "_alike", "_alike", defArgs (topS 80), defBody (topS 80), defScope (topS 80), [], []⟩
def ddwhole_element : He.DefD := ⟨("whole_element", none), "whole_element", "whole_element", defArgs (topS 79), defBody (topS 79), defScope (topS 79), [], []⟩
def dd_cross : He.DefD := ⟨("_cross", none), "_cross", "_cross", defArgs (topS 85), defBody (topS 85), defScope (topS 85), [], []⟩
def ddline_shape : He.DefD := ⟨("line_shape", none), "line_shape", "line_shape", defArgs (topS 84), defBody (topS 84), defScope (topS 84), [], []⟩
def dd_meets_of_lines : He.DefD := ⟨("_meets_of_lines", none), "_meets_of_lines", "_meets_of_lines", defArgs (topS 90), defBody (topS 90), defScope (topS 90), [], []⟩
def ddshape_meets : He.DefD := ⟨("shape_meets", none), "shape_meets", "shape_meets", defArgs (topS 89), defBody (topS 89), defScope (topS 89), [], []⟩
def dd_points_in : He.DefD := ⟨("_points_in", none), "_points_in", "_points_in", defArgs (topS 96), defBody (topS 96), defScope (topS 96), [], []⟩
def dd_shape : He.DefD := ⟨("_shape", none), "_shape", "_shape", defArgs (topS 97), defBody (topS 97), defScope (topS 97), [], []⟩
def dd_two_shapes : He.DefD := ⟨("_two_shapes", none), "_two_shapes", "_two_shapes", defArgs (topS 95), defBody (topS 95), defScope (topS 95), [], []⟩
def ddmeets : He.DefD := ⟨("meets", none), "meets", "meets", defArgs (topS 94), defBody (topS 94), defScope (topS 94), [], []⟩
def dd_law_gcd : He.DefD := ⟨("_law_gcd", none), "_law_gcd", "_law_gcd", defArgs (topS 101), defBody (topS 101), defScope (topS 101), [], []⟩
def dd_law_bits : He.DefD := ⟨("_law_bits", none), "_law_bits", "_law_bits", defArgs (topS 103), defBody (topS 103), defScope (topS 103), [], []⟩
def dd_law_times : He.DefD := ⟨("_law_times", none), "_law_times", "_law_times", defArgs (topS 104), defBody (topS 104), defScope (topS 104), [], []⟩
def dd_law_odd : He.DefD := ⟨("_law_odd", none), "_law_odd", "_law_odd", defArgs (topS 105), defBody (topS 105), defScope (topS 105), [], []⟩
def dd_law_turned : He.DefD := ⟨("_law_turned", none), "_law_turned", "_law_turned", defArgs (topS 106), defBody (topS 106), defScope (topS 106), [], []⟩
def dd_law_conjugates : He.DefD := ⟨("_law_conjugates", none), "_law_conjugates", "_law_conjugates", defArgs (topS 107), defBody (topS 107), defScope (topS 107), [], []⟩
def dd_law_sign : He.DefD := ⟨("_law_sign", none), "_law_sign", "_law_sign", defArgs (topS 108), defBody (topS 108), defScope (topS 108), [], []⟩
def dd_law_less : He.DefD := ⟨("_law_less", none), "_law_less", "_law_less", defArgs (topS 109), defBody (topS 109), defScope (topS 109), [], []⟩
def dd_law_primitive : He.DefD := ⟨("_law_primitive", none), "_law_primitive", "_law_primitive", defArgs (topS 110), defBody (topS 110), defScope (topS 110), [], []⟩
def dd_law_least : He.DefD := ⟨("_law_least", none), "_law_least", "_law_least", defArgs (topS 111), defBody (topS 111), defScope (topS 111), [], []⟩
def dd_law_place : He.DefD := ⟨("_law_place", none), "_law_place", "_law_place", defArgs (topS 112), defBody (topS 112), defScope (topS 112), [], []⟩
def dd_law_is : He.DefD := ⟨("_law_is", none), "_law_is", "_law_is", defArgs (topS 113), defBody (topS 113), defScope (topS 113), [], []⟩
def dd_law_line : He.DefD := ⟨("_law_line", none), "_law_line", "_law_line", defArgs (topS 116), defBody (topS 116), defScope (topS 116), [], []⟩
def dd_law_crossing : He.DefD := ⟨("_law_crossing", none), "_law_crossing", "_law_crossing", defArgs (topS 117), defBody (topS 117), defScope (topS 117), [], []⟩
def dd_law_made_point : He.DefD := ⟨("_law_made_point", none), "_law_made_point", "_law_made_point", defArgs (topS 118), defBody (topS 118), defScope (topS 118), [], []⟩
def dd_law_are : He.DefD := ⟨("_law_are", none), "_law_are", "_law_are", defArgs (topS 119), defBody (topS 119), defScope (topS 119), [], []⟩
def dd_law_point : He.DefD := ⟨("_law_point", none), "_law_point", "_law_point", defArgs (topS 114), defBody (topS 114), defScope (topS 114), [], []⟩
def dd_law_two_points : He.DefD := ⟨("_law_two_points", none), "_law_two_points", "_law_two_points", defArgs (topS 115), defBody (topS 115), defScope (topS 115), [], []⟩
def ddNumber_polynomial : He.DefD := ⟨("Number", some "polynomial"), "polynomial", "Number.polynomial", defArgs (inCls (topS 73) 11), defBody (inCls (topS 73) 11), defScope (inCls (topS 73) 11), [], []⟩
def ddNumber_place : He.DefD := ⟨("Number", some "place"), "place", "Number.place", defArgs (inCls (topS 73) 13), defBody (inCls (topS 73) 13), defScope (inCls (topS 73) 13), [], []⟩
def ddField_holding : He.DefD := ⟨("Field", some "holding"), "holding", "Field.holding", defArgs (inCls (topS 78) 1), defBody (inCls (topS 78) 1), defScope (inCls (topS 78) 1), [], []⟩
def ddField_number : He.DefD := ⟨("Field", some "number"), "number", "Field.number", defArgs (inCls (topS 78) 2), defBody (inCls (topS 78) 2), defScope (inCls (topS 78) 2), [], []⟩
def ddField_minus : He.DefD := ⟨("Field", some "minus"), "minus", "Field.minus", defArgs (inCls (topS 78) 4), defBody (inCls (topS 78) 4), defScope (inCls (topS 78) 4), [], []⟩
def ddField_product : He.DefD := ⟨("Field", some "product"), "product", "Field.product", defArgs (inCls (topS 78) 5), defBody (inCls (topS 78) 5), defScope (inCls (topS 78) 5), [], []⟩
def ddField_inverted : He.DefD := ⟨("Field", some "inverted"), "inverted", "Field.inverted", defArgs (inCls (topS 78) 7), defBody (inCls (topS 78) 7), defScope (inCls (topS 78) 7), [], []⟩
def ddNumber___init__ : He.DefD := ⟨("Number", some "__init__"), "__init__", "Number.__init__", defArgs (inCls (topS 73) 0), defBody (inCls (topS 73) 0), defScope (inCls (topS 73) 0), [.int 1], []⟩
def ddField___init__ : He.DefD := ⟨("Field", some "__init__"), "__init__", "Field.__init__", defArgs (inCls (topS 78) 0), defBody (inCls (topS 78) 0), defScope (inCls (topS 78) 0), [], []⟩
def faH0 : List He.Fa := [.glo "law", .glo "_law_state", .glo "_law_take", .glo "plus", .glo "minus", .glo "times", .glo "padded", .glo "multiplied", .glo "lowest", .glo "inverse", .glo "element_sum", .glo "element_difference", .glo "element_product", .glo "_shares", .glo "_chosen", .glo "trimmed", .glo "bound", .glo "_unit", .glo "_root", .glo "_scaled", .glo "_bases", .glo "_count_below_first", .glo "place_of", .glo "widened", .glo "image"]
def faH1 : List He.Fa := [.glo "image_of_element", .glo "joined", .glo "primitive", .glo "characteristic", .glo "_polynomial_root", .glo "_least_terms", .glo "_degree", .glo "least_polynomial", .glo "least_field", .glo "_rank", .glo "_all_in_one_tower", .glo "all_together", .glo "number_in", .glo "_shortest", .glo "_alike", .glo "whole_element", .glo "_cross", .glo "line_shape", .glo "_meets_of_lines", .glo "shape_meets", .glo "_points_in", .glo "_shape", .glo "_two_shapes", .glo "meets", .glo "_law_gcd"]
def faH2 : List He.Fa := [.glo "_law_bits", .glo "_law_times", .glo "_law_odd", .glo "_law_turned", .glo "_law_conjugates", .glo "_law_sign", .glo "_law_less", .glo "_law_primitive", .glo "_law_least", .glo "_law_place", .glo "_law_is", .glo "_law_line", .glo "_law_crossing", .glo "_law_made_point", .glo "_law_are", .glo "_law_point", .glo "_law_two_points", .glo "Number", .cls "Number", .mkr "Number", .noat "Number" "tower", .noat "Number" "element", .glo "Field", .cls "Field", .mkr "Field"]
def faH3 : List He.Fa := [.noat "Field" "tower", .noat "Field" "known_roots", .meth "Number" "polynomial", .meth "Number" "place", .meth "Field" "holding", .meth "Field" "number", .meth "Field" "minus", .meth "Field" "product", .meth "Field" "inverted", .free "ValueError", .free "tuple", .free "any", .free "reversed", .free "enumerate", .free "zip", .free "range", .free "len", .free "max", .free "abs", .free "NotImplemented", .free "int", .free "isinstance", .free "min", .free "sum", .free "bool"]
def faH4 : List He.Fa := [.int "FIRST_BITS" (64), .int "MOST_GENERATORS" (4), .glo "ZERO"]
def faH : List He.Fa := faH0 ++ faH1 ++ faH2 ++ faH3 ++ faH4
def fnH0 : List He.DefD := [ddlaw, dd_law_state, dd_law_take, ddplus, ddminus, ddtimes, ddpadded, ddmultiplied, ddlowest, ddinverse, ddelement_sum, ddelement_difference, ddelement_product, dd_shares, dd_chosen, ddtrimmed, ddbound, dd_unit, dd_root, dd_scaled, dd_bases, dd_count_below_first, ddplace_of, ddwidened, ddimage]
def fnH1 : List He.DefD := [ddimage_of_element, ddjoined, ddprimitive, ddcharacteristic, dd_polynomial_root, dd_least_terms, dd_degree, ddleast_polynomial, ddleast_field, dd_rank, dd_all_in_one_tower, ddall_together, ddnumber_in, dd_shortest, dd_alike, ddwhole_element, dd_cross, ddline_shape, dd_meets_of_lines, ddshape_meets, dd_points_in, dd_shape, dd_two_shapes, ddmeets, dd_law_gcd]
def fnH2 : List He.DefD := [dd_law_bits, dd_law_times, dd_law_odd, dd_law_turned, dd_law_conjugates, dd_law_sign, dd_law_less, dd_law_primitive, dd_law_least, dd_law_place, dd_law_is, dd_law_line, dd_law_crossing, dd_law_made_point, dd_law_are, dd_law_point, dd_law_two_points, ddNumber_polynomial, ddNumber_place, ddField_holding, ddField_number, ddField_minus, ddField_product, ddField_inverted, ddNumber___init__]
def fnH3 : List He.DefD := [ddField___init__]
def fnH : List He.DefD := fnH0 ++ fnH1 ++ fnH2 ++ fnH3
def exH : List (PySem.W.Frag → Bool) := numX "Number" ++ [(fun K => He.eqO (PySem.W.nsIn K mainGlobals "gcd") (some (some (.builtin "math.gcd")))),
  (fun K => He.eqO (PySem.W.nsIn K mainGlobals "isqrt") (some (some (.builtin "math.isqrt")))),
  (fun K => gtupB "ZERO" zeroD K)]
def tsH : List Tb := []
def nmH0 : List Str := ["_wall", "plus", "minus", "times", "padded", "last_generator", "multiplied", "by_generator", "norm", "lowest", "inverse", "element_sum", "element_difference", "element_product", "element_quotient", "from_halves", "trimmed", "_shares", "_chosen", "FIRST_BITS", "bound", "_unit", "_root", "_scaled", "basis_of"]
def nmH1 : List Str := ["sign_of", "positive", "apart", "_bases", "_count_below_first", "place_of", "MOST_TRIED", "square_root", "_integer_root", "_root_without_last", "_means", "adjoined", "_square_part", "new_squares", "_partner", "widened", "image", "image_of_element", "joined", "_known_root", "root_in", "WorkError", "ZeroDivisor", "NegativeRoot", "primitive"]
def nmH2 : List Str := ["MOST_GENERATORS", "characteristic", "_polynomial_square", "_polynomial_root", "_least_terms", "_degree", "least_polynomial", "least_field", "_with_root_below", "together", "_in_one_tower", "_rank", "all_together", "_all_in_one_tower", "Number", "number_in", "_both", "_order", "Field", "whole_element", "_alike", "_shortest", "ZERO", "line_shape", "_cross"]
def nmH3 : List Str := ["circle_shape", "_square", "_side_of_line", "shape_meets", "_meets_of_lines", "_meets_of_circles", "_meets_with_circle", "meets", "_two_shapes", "_points_in", "_shape", "_law_state", "_law_take", "_law_gcd", "_law_isqrt", "_law_bits", "_law_times", "_law_odd", "_law_turned", "_law_conjugates", "_law_sign", "_law_less", "_law_primitive", "_law_least", "_law_place"]
def nmH4 : List Str := ["_law_is", "_law_point", "_law_two_points", "_law_line", "_law_crossing", "_law_made_point", "_law_are"]
def nmH : List Str := nmH0 ++ nmH1 ++ nmH2 ++ nmH3 ++ nmH4
abbrev RH : PySem.W.OpenRow := PySem.W.OpenLaw.row PySem.Challenge.rw_compasswork_k13_meets_of_lines
abbrev hkH : PySem.W.Hook := hookH 6 faH fnH exH tsH
def obH (s : PySem.W.SharedT) : AlH := obsHG 6 faH fnH exH tsH (HandSHeadRun.getT s)
theorem obH_eq (s : PySem.W.SharedT) : obH s = hkH.obs s.abs := obsHG_eq (HandSHeadRun.getT_eq s)
theorem runXfalse (w : World) : (endW 20000 RH (w.withFollow "special-get-raises" false)).map (fun x => (HandSHeadRun.looksF RH.prog x.1.heap x.2.abs, HandSHeadRun.seenQ (PySem.W.view RH.prog [0, 120]) nmH (importedModules RH.prog.main.body) (fun s => PySem.W.xlAt (PySem.W.view RH.prog [0, 120]) [] s && PySem.W.recOk RH.toRowW.records s) x.2.abs, obsX 6 exH tsH (HandSHeadRun.getT x.2))) = some (true, PySem.W.openGood (PySem.W.view RH.prog [0, 120]) nmH, (true, tsH.map fun t => some (valI (w.withFollow "special-get-raises" false).params t.2))) := by
  kernel_rfl
theorem runAfalse (w : World) : (endW 20000 RH (w.withFollow "special-get-raises" false)).map (fun x => obsA 6 faH fnH (HandSHeadRun.getT x.2)) = some (He.valD fnH) := by
  kernel_rfl
theorem runXtrue (w : World) : (endW 20000 RH (w.withFollow "special-get-raises" true)).map (fun x => (HandSHeadRun.looksF RH.prog x.1.heap x.2.abs, HandSHeadRun.seenQ (PySem.W.view RH.prog [0, 120]) nmH (importedModules RH.prog.main.body) (fun s => PySem.W.xlAt (PySem.W.view RH.prog [0, 120]) [] s && PySem.W.recOk RH.toRowW.records s) x.2.abs, obsX 6 exH tsH (HandSHeadRun.getT x.2))) = some (true, PySem.W.openGood (PySem.W.view RH.prog [0, 120]) nmH, (true, tsH.map fun t => some (valI (w.withFollow "special-get-raises" true).params t.2))) := by
  kernel_rfl
theorem runAtrue (w : World) : (endW 20000 RH (w.withFollow "special-get-raises" true)).map (fun x => obsA 6 faH fnH (HandSHeadRun.getT x.2)) = some (He.valD fnH) := by
  kernel_rfl
theorem runH (w : World) : HandSHeadRun.RunEqI RH (PySem.W.view RH.prog [0, 120]) hkH obH 20000 nmH w := PySem.W.byRow2 "special-get-raises" (P := fun w => HandSHeadRun.RunEqI RH (PySem.W.view RH.prog [0, 120]) hkH obH 20000 nmH w) (fun w => run_two (runXfalse w) (runAfalse w)) (fun w => run_two (runXtrue w) (runAtrue w)) w
end KW

/-! small things that the laws' own bodies share -/
namespace KG
open PySem PySem.Spec PyProof.Rows L2
theorem same_but {p : Addr} {H H1 H2 : Hp} (s : Same H H1) (b : But p H1 H2) (n : H p = none) : Same H H2 := fun c o e => b c o (fun z => by rw [z, n] at e; cases e) (s c o e)
theorem seqO {K : PySem.W.Frag} {p a : Addr} {H H1 : Hp} {xs : List V} (h : SqL K H a xs) (n : H p = none) (s : Same H H1) : SqO K H1 p a xs := fun o => Same.seq (same_put s n) h
theorem cut_one (xs : List V) : (cutV xs none (some 1)).length ≤ 1 := by
  unfold cutV
  rw [HT.sIx_none, List.length_take, show HT.sIx xs.length xs.length (some 1) = min 1 xs.length from HT.sIx_nat _ _ 1]
  omega
theorem ne_lists {K : PySem.W.Frag} {H : Hp} {a b : Addr} {r q : List Int} {Q : VK} (h1 : SqL K H a (r.map V.int)) (h2 : SqL K H b (q.map V.int)) (k : Q (.bl (!decide (r = q))) H) : rNeD K (.ref a) (.ref b) H Q :=
  ⟨_, _, .lst h1 (dp_all r), .lst h2 (dp_all q), shaped_l r, shaped_l q, by rw [eqv_l]; exact k⟩
theorem small_new {ss : List Stp} {m : Int} {s : Stp} (h : SNew ss m s) (hm : m < 2 ^ 1000) (hl : ss.length ≤ 100000) : ∀ n ∈ s.ns, n.natAbs.log2 < 1920 := by
  have lg : ∀ n : Int, n.natAbs < 2 ^ 1000 → n.natAbs.log2 < 1920 := fun n h => log_small (n := 1000) h (by decide) (by decide)
  have big : (100000 : Nat) < 2 ^ 1000 := by decide +kernel
  have hm' : ∀ n : Int, -m ≤ n → n ≤ m → n.natAbs < 2 ^ 1000 := fun n a b => by
    have e : ((2 ^ 1000 : Nat) : Int) = (2 : Int) ^ 1000 := by decide +kernel
    have h3 : (n.natAbs : Int) ≤ m := by omega
    have h4 : (n.natAbs : Int) < ((2 ^ 1000 : Nat) : Int) := by rw [e]; exact Int.lt_of_le_of_lt h3 hm
    exact Int.ofNat_lt.mp h4
  have nm : ∀ b i, Nm1 ss b i → i.natAbs < 2 ^ 1000 := fun b i ⟨h0, s, hs, _⟩ => by
    have := (List.getElem?_eq_some_iff.mp hs).1
    exact Nat.lt_of_lt_of_le (show i.natAbs < 100001 by omega) big
  rcases h with ⟨x, y, rfl, a, b, c, d⟩ | ⟨i, j, rfl, a, b⟩ | ⟨i, j, k, rfl, a, b, c⟩ | ⟨i, j, w, rfl, a, b, c, d⟩
  · intro n hn
    rcases List.mem_cons.mp hn with rfl | hn
    · exact lg _ (hm' _ a b)
    · rw [List.mem_singleton.mp hn]; exact lg _ (hm' _ c d)
  · intro n hn
    rcases List.mem_cons.mp hn with rfl | hn
    · exact lg _ (nm _ _ a)
    · rw [List.mem_singleton.mp hn]; exact lg _ (nm _ _ b)
  · intro n hn
    rcases List.mem_cons.mp hn with rfl | hn
    · exact lg _ (nm _ _ a)
    rcases List.mem_cons.mp hn with rfl | hn
    · exact lg _ (nm _ _ b)
    · rw [List.mem_singleton.mp hn]; exact lg _ (nm _ _ c)
  · intro n hn
    rcases List.mem_cons.mp hn with rfl | hn
    · exact lg _ (nm _ _ a)
    rcases List.mem_cons.mp hn with rfl | hn
    · exact lg _ (nm _ _ b)
    · rw [List.mem_singleton.mp hn]; exact lg _ (Nat.lt_of_lt_of_le (show w.natAbs < 100001 by omega) big)
/-- a def that may raise, asked where it doesn't -/
theorem quiet {P : Program} {w : World} {K : PySem.W.Frag} {mg : Str → Option Value} {base : Heap} {k : Nat} {f : Addr} {fd : FuncData} {ps : List Str} {sp : Sp} (F : FnOk P w K mg base (L2.CX P w) k f fd ps sp) : FnOk P w K mg base CX0 k f fd ps (fun vs H Q _ => sp vs H Q fun _ _ _ => False) :=
  ⟨fun vs H Q E q => F.len _ _ _ _ q, fun A outer s H args us vs Q E hr he hb hv hs => codeAny_mono (F.run A outer s H args us vs Q _ hr he hb hv hs) fun r s2 h => by
    match r, h with
    | .ok (.ret u), h => exact h
    | .ok .next, h => exact False.elim h
    | .ok .brk, h => exact False.elim h
    | .ok .cont, h => exact False.elim h
    | .error e, h =>
      obtain ⟨_, _, _, _, _, _, _, _, _, _, _, _, h⟩ := h
      exact False.elim h⟩
end KG

set_option maxHeartbeats 1000000
/-! what draws from the state: trees of draws -/
namespace DN
open PySem PySem.Spec PyProof.Rows L2 KG
inductive Tr (α : Type) where
  | ret (a : α)
  | bad
  | ask (m : Int) (k : Int → Tr α)
def Tr.bind {α β : Type} : Tr α → (α → Tr β) → Tr β
  | .ret a, f => f a
  | .bad, _ => .bad
  | .ask m k, f => .ask m fun d => (k d).bind f
/-- p holds wherever the draws lead -/
def Tr.All {α : Type} (p : α → Prop) : Tr α → Prop
  | .ret a => p a
  | .bad => False
  | .ask m k => (0 < m ∧ m.natAbs.log2 < 9000) ∧ ∀ d, 0 ≤ d → d < m → (k d).All p
theorem Tr.All.imp {α : Type} {p q : α → Prop} (h : ∀ a, p a → q a) : ∀ {t : Tr α}, t.All p → t.All q
  | .ret a, x => h a x
  | .bad, x => x
  | .ask m k, x => ⟨x.1, fun d h0 h1 => Tr.All.imp h (x.2 d h0 h1)⟩
theorem Tr.all_bind {α β : Type} {p : β → Prop} {f : α → Tr β} : ∀ {t : Tr α}, (t.bind f).All p ↔ t.All fun a => (f a).All p
  | .ret a => Iff.rfl
  | .bad => Iff.rfl
  | .ask m k => ⟨fun x => ⟨x.1, fun d h0 h1 => Tr.all_bind.mp (x.2 d h0 h1)⟩, fun x => ⟨x.1, fun d h0 h1 => Tr.all_bind.mpr (x.2 d h0 h1)⟩⟩
def ofO {α : Type} : Option α → Tr α
  | some a => .ret a
  | none => .bad
theorem all_ofO {α : Type} {p : α → Prop} : ∀ {o : Option α}, (ofO o).All p → ∃ a, o = some a ∧ p a
  | some a, h => ⟨a, rfl, h⟩
  | none, h => h.elim
/-- two ways at once -/
theorem Tr.All.bind2 {α β : Type} {p : β → Prop} {f : α → Tr β} {t : Tr α} (h : (t.bind f).All p) : t.All fun a => (f a).All p := Tr.all_bind.mp h
abbrev OD (α : Type) := List Sl → List Cell → Tr (α × List Cell)
/-- den: what may come out, by all draws -/
def tXo {α β : Type} (S : CS) (rep : List Addr → Hp → β → α → Prop) (den : OD α) : L2.St → Hp → (β → Hp → Prop) → Prop := fun σ H Q =>
  ∃ A μ H0 G ρ, En S.cls A H0 G H σ ρ ∧ Wd S A μ G H ∧ (den ρ μ).All fun p => ∀ A' G' H' v, Ex A G H A' G' H' → Wd S A' p.2 G' H' → rep A' G' v p.1 → Q v H'
abbrev oD (S : CS) (den : OD D) : TE := tXo S (Rp S.cls) den
abbrev oA (S : CS) (den : OD (List D)) : TA := tXo S (RpAll S.cls) den
abbrev oB (S : CS) (den : OD Bool) : TT := tXo S eqR den
abbrev oP (S : CS) (den : OD (Option Int)) : TO := tXo S eqR den
def lo {α : Type} (den : SD α) : OD α := fun ρ μ => ofO (den ρ μ)
theorem o_lift {α β : Type} {S : CS} {rep : List Addr → Hp → β → α → Prop} {den : SD α} : ∀ σ H Q, tXo S rep (lo den) σ H Q → tXs S rep den σ H Q := fun σ H Q ⟨A, μ, H0, G, ρ, en, W, hd⟩ => by
  obtain ⟨⟨a, μ'⟩, h1, k⟩ := all_ofO hd
  exact ⟨A, μ, H0, G, ρ, a, μ', en, W, h1, k⟩
section
variable {X : Cx} {S : CS} {pos : Pos}
theorem ol {e : Expr} {d : SD D} (h : PE X e (zD S d)) : PE X e (oD S (lo d)) := pe_to h o_lift
theorem olt {e : Expr} {d : SD Bool} (h : PT X e (zB S d)) : PT X e (oB S (lo d)) := pt_to h o_lift
theorem ola {es : List Expr} {d : SD (List D)} (h : PA X es (zA S d)) : PA X es (oA S (lo d)) := pa_to h o_lift
theorem olw {e : Expr} {d : SD Bool} (h : PW X e (zB S d)) : PW X e (oB S (lo d)) := pw_to h o_lift
theorem olo {e : Option Expr} {d : SD (Option Int)} (h : PO X e (zP S d)) : PO X e (oP S (lo d)) := po_to h o_lift
def o2 (f : D → D → Option D) (da db : OD D) : OD D := fun ρ μ => (da ρ μ).bind fun p => (db ρ p.2).bind fun q => (ofO (f p.1 q.1)).bind fun d => .ret (d, q.2)
def o1 (f : D → Option D) (da : OD D) : OD D := fun ρ μ => (da ρ μ).bind fun p => (ofO (f p.1)).bind fun d => .ret (d, p.2)
theorem io2 {r : R2} {f : D → D → Option D} (h : Is2 S.cls r f) (da db : OD D) : ∀ σ H Q, oD S (o2 f da db) σ H Q → tOp r (oD S da) (oD S db) σ H Q := fun σ H Q ⟨A, μ, H0, G, ρ, en, W, hd⟩ =>
  ⟨A, μ, H0, G, ρ, en, W, hd.bind2.imp fun p hp A1 G1 H1 x x1 W1 r1 => ⟨A1, p.2, H0, G1, ρ, en.up x1 W1, W1, hp.bind2.imp fun q hq A2 G2 H2 y x2 W2 r2 => by
    obtain ⟨d, hf, k⟩ := all_ofO hq.bind2
    exact h A2 G2 H2 x y p.1 q.1 d Q W2.same (r1.up x2.pre x2.g) r2 hf fun G' H' v x3 r3 => k A2 G' H' v ((x1.trans x2).trans (.of x3)) (W2.ext x3) r3⟩⟩
theorem io1 {r : V → Hp → VK → Prop} {f : D → Option D} (h : Is1 S.cls r f) (da : OD D) : ∀ σ H Q, oD S (o1 f da) σ H Q → tUn r (oD S da) σ H Q := fun σ H Q ⟨A, μ, H0, G, ρ, en, W, hd⟩ =>
  ⟨A, μ, H0, G, ρ, en, W, hd.bind2.imp fun p hp A1 G1 H1 x x1 W1 r1 => by
    obtain ⟨d, hf, k⟩ := all_ofO hp.bind2
    exact h A1 G1 H1 x p.1 d Q W1.same r1 hf fun G' H' v x3 r3 => k A1 G' H' v (x1.trans (.of x3)) (W1.ext x3) r3⟩
theorem on_op {op : Operator} {r : R2} {f : D → D → Option D} {a b : Expr} {da db : OD D} (h : Is2 S.cls r f) (ho : OpR X (binaryOp op) r) (ha : PE X a (oD S da)) (hb : PE X b (oD S db)) : PE X (.BinOp a op b pos) (oD S (o2 f da db)) := pe_to (pe_op ho ha hb) (io2 h da db)
theorem on_un {op : UnaryOp} {r : V → Hp → VK → Prop} {f : D → Option D} {a : Expr} {da : OD D} (h : Is1 S.cls r f) (ho : UnR X (unaryOp op) r) (ha : PE X a (oD S da)) : PE X (.UnaryOp op a pos) (oD S (o1 f da)) := pe_to (pe_un ho ha) (io1 h da)
theorem on_cmp {op : CmpOp} {r : R2} {f : D → D → Option D} {a b : Expr} {da db : OD D} (h : Is2 S.cls r f) (ho : OpR X (compareOp op) r) (ha : PE X a (oD S da)) (hb : PE X b (oD S db)) (hm : behindInMarks op b = false) : PE X (.Compare a [op] [b] pos) (oD S (o2 f da db)) := pe_to (pe_cmpR ho ha hb hm) (io2 h da db)
theorem on_ix {a b : Expr} {da db : OD D} (ha : PE X a (oD S da)) (hb : PE X b (oD S db)) (hs : PlainIx b) : PE X (.Subscript a b pos) (oD S (o2 fIx da db)) := pe_to (pe_ix ix_seq ha hb hs) (io2 is_ix da db)
section
variable {a b : Expr} {da db : OD D}
theorem on_add (ha : PE X a (oD S da)) (hb : PE X b (oD S db)) : PE X (.BinOp a .Add b pos) (oD S (o2 fAdd da db)) := on_op is_add op_addA ha hb
theorem on_sub (ha : PE X a (oD S da)) (hb : PE X b (oD S db)) : PE X (.BinOp a .Sub b pos) (oD S (o2 fSub da db)) := on_op is_i20 op_sub ha hb
theorem on_mul (ha : PE X a (oD S da)) (hb : PE X b (oD S db)) : PE X (.BinOp a .Mult b pos) (oD S (o2 fMul da db)) := on_op is_mul op_mulA ha hb
theorem on_div (ha : PE X a (oD S da)) (hb : PE X b (oD S db)) : PE X (.BinOp a .FloorDiv b pos) (oD S (o2 fDiv da db)) := on_op (is_i2 cDiv_ok) op_fdivZ ha hb
theorem on_mod (ha : PE X a (oD S da)) (hb : PE X b (oD S db)) : PE X (.BinOp a .Mod b pos) (oD S (o2 fMod da db)) := on_op (is_i2 fun _ _ h => of_decide_eq_true h) op_modN ha hb
theorem on_neg (ha : PE X a (oD S da)) : PE X (.UnaryOp .USub a pos) (oD S (o1 (fI1 fun i => -i) da)) := on_un is_u un_neg ha
end
/-! arguments, displays -/
def w0 : OD (List D) := fun _ μ => .ret ([], μ)
def wc (d : OD D) (ds : OD (List D)) : OD (List D) := fun ρ μ => (d ρ μ).bind fun p => (ds ρ p.2).bind fun q => .ret (p.1 :: q.1, q.2)
theorem oa_nil : PA X [] (oA S w0) := pa_to pa_nil fun σ H Q ⟨A, μ, H0, G, ρ, en, W, hd⟩ => (show ∀ A' G' H' v, Ex A G H A' G' H' → Wd S A' μ G' H' → RpAll S.cls A' G' v [] → Q v H' from hd) A G H [] .refl W .nil
theorem oa_cons {e : Expr} {es : List Expr} {d : OD D} {ds : OD (List D)} (ha : PE X e (oD S d)) (hr : PA X es (oA S ds)) (hs : starEach (e :: es) X.env = (false, eval e X.env) :: starEach es X.env := by rfl) : PA X (e :: es) (oA S (wc d ds)) :=
  pa_to (pa_cons ha hr hs) fun σ H Q ⟨A, μ, H0, G, ρ, en, W, hd⟩ =>
    ⟨A, μ, H0, G, ρ, en, W, hd.bind2.imp fun p hp A1 G1 H1 x x1 W1 r1 => ⟨A1, p.2, H0, G1, ρ, en.up x1 W1, W1, hp.bind2.imp fun q hq A2 G2 H2 xs x2 W2 r2 => (show ∀ A' G' H' v, Ex A G H A' G' H' → Wd S A' q.2 G' H' → RpAll S.cls A' G' v (p.1 :: q.1) → Q v H' from hq) A2 G2 H2 (x :: xs) (x1.trans x2) W2 (.cons (r1.up x2.pre x2.g) r2)⟩⟩
def oTup (das : OD (List D)) : OD D := fun ρ μ => (das ρ μ).bind fun p => if decide (p.1.length ≤ szB) then .ret (.tup p.1, p.2) else .bad
def oLst (das : OD (List D)) : OD D := fun ρ μ => (das ρ μ).bind fun p => if decide (p.1.length ≤ szB) then .ret (.lst p.1, p.2) else .bad
theorem all_if {α : Type} {p : α → Prop} {c : Bool} {t : Tr α} (h : (if c then t else .bad).All p) : c = true ∧ t.All p := by
  cases c with
  | true => exact ⟨rfl, h⟩
  | false => exact h.elim
theorem on_tup {es : List Expr} {x1} {das : OD (List D)} (h : PA X es (oA S das)) : PE X (.Tuple es x1 pos) (oD S (oTup das)) :=
  pe_to (pe_tup h) fun σ H Q ⟨A, μ, H0, G, ρ, e, W, hd⟩ =>
    ⟨A, μ, H0, G, ρ, e, W, hd.bind2.imp fun p hp A1 G1 H1 xs x1 W1 r1 => by
      obtain ⟨hz, k⟩ := all_if hp
      refine ⟨by rw [r1.len]; exact sz_ok hz, fun a np => ?_⟩
      have x2 := Ext.new W1.same np (.tup xs)
      exact (show ∀ A' G' H' v, Ex A G H A' G' H' → Wd S A' p.2 G' H' → Rp S.cls A' G' v (.tup p.1) → Q v H' from k) A1 _ _ _ (x1.trans (.of x2)) (W1.ext x2) (.tup upd_same (r1.mono (same_new (none_of W1.same np) _)))⟩
theorem on_lst {es : List Expr} {das : OD (List D)} (h : PA X es (oA S das)) : PE X (.List es pos) (oD S (oLst das)) :=
  pe_to (pe_lst h) fun σ H Q ⟨A, μ, H0, G, ρ, e, W, hd⟩ =>
    ⟨A, μ, H0, G, ρ, e, W, hd.bind2.imp fun p hp A1 G1 H1 xs x1 W1 r1 => by
      obtain ⟨hz, k⟩ := all_if hp
      refine ⟨by rw [r1.len]; exact sz_ok hz, fun a np => ?_⟩
      have x2 := Ext.new W1.same np (.lst xs)
      exact (show ∀ A' G' H' v, Ex A G H A' G' H' → Wd S A' p.2 G' H' → Rp S.cls A' G' v (.lst p.1) → Q v H' from k) A1 _ _ _ (x1.trans (.of x2)) (W1.ext x2) (.lst upd_same (r1.mono (same_new (none_of W1.same np) _)))⟩
/-! tests -/
def oAsB (d : OD D) : OD Bool := fun ρ μ => (d ρ μ).bind fun p => (ofO (asB p.1)).bind fun b => .ret (b, p.2)
theorem otest_of {t : TE} {den : OD D} (h : ∀ σ H Q, oD S den σ H Q → t σ H Q) : ∀ σ H Q, oB S (oAsB den) σ H Q → tTest t σ H Q := fun σ H Q ⟨A, μ, H0, G, ρ, en, W, hd⟩ =>
  h σ H _ ⟨A, μ, H0, G, ρ, en, W, hd.bind2.imp fun p hp A1 G1 H1 v x1 W1 r1 => by
    obtain ⟨b, hb, k⟩ := all_ofO hp.bind2
    have e : p.1 = .bl b := asB_ok hb
    rw [e] at r1
    cases r1
    exact ⟨b, rfl, k A1 G1 H1 b x1 W1 rfl⟩⟩
section
variable {a b : Expr} {da db : OD D}
theorem ot_cmp {op : CmpOp} {r : R2} {f : D → D → Option D} (h : Is2 S.cls r f) (ho : OpR X (compareOp op) r) (ha : PE X a (oD S da)) (hb : PE X b (oD S db)) (hm : behindInMarks op b = false) : PT X (.Compare a [op] [b] pos) (oB S (oAsB (o2 f da db))) := pt_to (pt_cmpR ho ha hb hm) (otest_of (io2 h da db))
theorem ot_eq (hu : X.A.units + 64 < cLine) (ha : PE X a (oD S da)) (hb : PE X b (oD S db)) : PT X (.Compare a [.Eq] [b] pos) (oB S (oAsB (o2 fEq da db))) := ot_cmp (r := rEqA X.K) is_eq (op_eq.or (op_eqD hu)) ha hb (nomark _)
theorem ot_ne (hu : X.A.units + 64 < cLine) (ha : PE X a (oD S da)) (hb : PE X b (oD S db)) : PT X (.Compare a [.NotEq] [b] pos) (oB S (oAsB (o2 fNe da db))) := ot_cmp (r := rNeA X.K) is_ne (op_ne.or (op_neD hu)) ha hb (nomark _)
theorem ot_lt (ha : PE X a (oD S da)) (hb : PE X b (oD S db)) : PT X (.Compare a [.Lt] [b] pos) (oB S (oAsB (o2 (fB20 fun i j => decide (i < j)) da db))) := ot_cmp is_b20 op_lt ha hb (nomark _)
theorem ot_le (ha : PE X a (oD S da)) (hb : PE X b (oD S db)) : PT X (.Compare a [.LtE] [b] pos) (oB S (oAsB (o2 (fB20 fun i j => decide (i ≤ j)) da db))) := ot_cmp is_b20 op_le ha hb (nomark _)
theorem ot_gt (ha : PE X a (oD S da)) (hb : PE X b (oD S db)) : PT X (.Compare a [.Gt] [b] pos) (oB S (oAsB (o2 (fB20 fun i j => decide (j < i)) da db))) := ot_cmp is_b20 op_gt ha hb (nomark _)
theorem ot_ge (ha : PE X a (oD S da)) (hb : PE X b (oD S db)) : PT X (.Compare a [.GtE] [b] pos) (oB S (oAsB (o2 (fB20 fun i j => decide (j ≤ i)) da db))) := ot_cmp is_b20 op_ge ha hb (nomark _)
end
def oTru (d : OD D) : OD Bool := fun ρ μ => (d ρ μ).bind fun p => (ofO (fTru p.1)).bind fun b => .ret (b, p.2)
theorem ot_truth {a : Expr} {da : OD D} (ha : PE X a (oD S da)) (he : ∀ whole, isTrue a X.env whole = (do let v ← whole; standAt a.pos; holding [v] (truthy v)) := by intro _; rfl) : PT X a (oB S (oTru da)) :=
  pt_to (pt_truth ha he) fun σ H Q ⟨A, μ, H0, G, ρ, en, W, hd⟩ =>
    ⟨A, μ, H0, G, ρ, en, W, hd.bind2.imp fun p hp A1 G1 H1 v x1 W1 r1 => by
      obtain ⟨b, hb, k⟩ := all_ofO hp.bind2
      exact ⟨b, tru_rp W1.same r1 hb, k A1 G1 H1 b x1 W1 rfl⟩⟩
def oNot (d : OD Bool) : OD Bool := fun ρ μ => (d ρ μ).bind fun p => .ret (!p.1, p.2)
def oAnd (d e : OD Bool) : OD Bool := fun ρ μ => (d ρ μ).bind fun p => if p.1 then e ρ p.2 else .ret (false, p.2)
def oOr (d e : OD Bool) : OD Bool := fun ρ μ => (d ρ μ).bind fun p => if p.1 then .ret (true, p.2) else e ρ p.2
section
variable {a b : Expr} {rest : List Expr} {da db : OD Bool}
theorem ot_not (ha : PT X a (oB S da)) : PT X (.UnaryOp .Not a pos) (oB S (oNot da)) := pt_to (pt_not ha) fun σ H Q ⟨A, μ, H0, G, ρ, en, W, hd⟩ =>
  ⟨A, μ, H0, G, ρ, en, W, hd.bind2.imp fun p hp A1 G1 H1 v x1 W1 r1 => (show ∀ A' G' H' v, Ex A G H A' G' H' → Wd S A' p.2 G' H' → v = (!p.1) → Q v H' from hp) A1 G1 H1 _ x1 W1 (by show (!v) = !p.1; rw [show v = p.1 from r1])⟩
theorem ow_and1 (ha : PT X a (oB S da)) : PW X (.BoolOp .And [a] pos) (oB S da) := pw_and1 ha
theorem ow_or1 (ha : PT X a (oB S da)) : PW X (.BoolOp .Or [a] pos) (oB S da) := pw_or1 ha
theorem ow_and (ha : PT X a (oB S da)) (hb : PW X (.BoolOp .And (b :: rest) pos) (oB S db)) : PW X (.BoolOp .And (a :: b :: rest) pos) (oB S (oAnd da db)) := pw_to (pw_and ha hb) fun σ H Q ⟨A, μ, H0, G, ρ, en, W, hd⟩ =>
  ⟨A, μ, H0, G, ρ, en, W, hd.bind2.imp fun p hp A1 G1 H1 v x1 W1 r1 => by
    obtain ⟨c, μ1⟩ := p
    obtain rfl : v = c := r1
    cases v with
    | true => exact ⟨A1, μ1, H0, G1, ρ, en.up x1 W1, W1, Tr.All.imp (fun q hq A2 G2 H2 v x2 W2 r2 => hq A2 G2 H2 v (x1.trans x2) W2 r2) (show (db ρ μ1).All _ from hp)⟩
    | false => exact (show ∀ A' G' H' v, Ex A G H A' G' H' → Wd S A' μ1 G' H' → v = false → Q v H' from hp) A1 G1 H1 false x1 W1 rfl⟩
theorem ow_or (ha : PT X a (oB S da)) (hb : PW X (.BoolOp .Or (b :: rest) pos) (oB S db)) : PW X (.BoolOp .Or (a :: b :: rest) pos) (oB S (oOr da db)) := pw_to (pw_or ha hb) fun σ H Q ⟨A, μ, H0, G, ρ, en, W, hd⟩ =>
  ⟨A, μ, H0, G, ρ, en, W, hd.bind2.imp fun p hp A1 G1 H1 v x1 W1 r1 => by
    obtain ⟨c, μ1⟩ := p
    obtain rfl : v = c := r1
    cases v with
    | false => exact ⟨A1, μ1, H0, G1, ρ, en.up x1 W1, W1, Tr.All.imp (fun q hq A2 G2 H2 v x2 W2 r2 => hq A2 G2 H2 v (x1.trans x2) W2 r2) (show (db ρ μ1).All _ from hp)⟩
    | true => exact (show ∀ A' G' H' v, Ex A G H A' G' H' → Wd S A' μ1 G' H' → v = true → Q v H' from hp) A1 G1 H1 true x1 W1 rfl⟩
end
def oIfE (c : OD Bool) (d e : OD D) : OD D := fun ρ μ => (c ρ μ).bind fun p => if p.1 then d ρ p.2 else e ρ p.2
theorem on_ifExp {c a b : Expr} {dc : OD Bool} {da db : OD D} (hc : PT X c (oB S dc)) (ha : PE X a (oD S da)) (hb : PE X b (oD S db)) : PE X (.IfExp c a b pos) (oD S (oIfE dc da db)) := pe_to (pe_ifExp hc ha hb) fun σ H Q ⟨A, μ, H0, G, ρ, en, W, hd⟩ =>
  ⟨A, μ, H0, G, ρ, en, W, hd.bind2.imp fun p hp A1 G1 H1 v x1 W1 r1 => by
    obtain ⟨c, μ1⟩ := p
    obtain rfl : v = c := r1
    cases v with
    | true => exact ⟨A1, μ1, H0, G1, ρ, en.up x1 W1, W1, Tr.All.imp (fun q hq A2 G2 H2 v x2 W2 r2 => hq A2 G2 H2 v (x1.trans x2) W2 r2) (show (da ρ μ1).All _ from hp)⟩
    | false => exact ⟨A1, μ1, H0, G1, ρ, en.up x1 W1, W1, Tr.All.imp (fun q hq A2 G2 H2 v x2 W2 r2 => hq A2 G2 H2 v (x1.trans x2) W2 r2) (show (db ρ μ1).All _ from hp)⟩⟩
/-! calls -/
abbrev FnT := List D → List Cell → Tr (D × List Cell)
def SpO (S : CS) (f : FnT) : Sp := fun vs H Q _ => ∃ A μ G ds, Wd S A μ G H ∧ RpAll S.cls A G vs ds ∧ (f ds μ).All fun p => ∀ A' G' H' v, Ex A G H A' G' H' → Wd S A' p.2 G' H' → Rp S.cls A' G' v p.1 → Q v H'
def oCall (f : FnT) (das : OD (List D)) : OD D := fun ρ μ => (das ρ μ).bind fun p => f p.1 p.2
def oCallP (f : List D → Option D) (das : OD (List D)) : OD D := fun ρ μ => (das ρ μ).bind fun p => (ofO (f p.1)).bind fun d => .ret (d, p.2)
section
variable {CX : CXT} {k : Nat} {f : Addr} {fd : FuncData} {ps : List Str} {E : XK} {x : Str} {p : Pos} {e : Expr} {es : List Expr} {das : OD (List D)}
theorem on_call {g : FnT} (F : FnOk X.prog X.w X.K X.mg X.base CX k f fd ps (SpO S g)) (hr : Room k X.A) (hg : Gl X x) (hm : X.mg x = some (.ref f)) (hk : PySem.W.keepIn X.K (.ref f) = true) (hb : Binds X.K fd ps []) (hx : Passes CX X E)
    (ha : PA X (e :: es) (oA S das)) (hdb : (x == ("__debug__" : Str)) = false := by decide) (he : starEach (e :: es) X.env = (false, eval e X.env) :: starEach es X.env := by rfl) (hpl : (backTo pos (starEach es X.env)).any (·.1) = false := by rfl) :
    PE X (.Call (.Name x p) (e :: es) [] pos) (oD S (oCall g das)) :=
  pe_to (pe_call F hr hg hm hk hb .nil hx ha hdb he hpl) fun σ H Q ⟨A, μ, H0, G, ρ, en, W, hd⟩ =>
    ⟨A, μ, H0, G, ρ, en, W, hd.bind2.imp fun p hp A1 G1 H1 vs x1 W1 r1 => ⟨A1, p.2, G1, p.1, W1, by rw [List.append_nil]; exact r1, hp.imp fun q hq A' G' H' v x2 W2 r2 => hq A' G' H' v (x1.trans x2) W2 r2⟩⟩
theorem on_callP {g : List D → Option D} (F : FnOk X.prog X.w X.K X.mg X.base CX k f fd ps (SpD S.cls g)) (hr : Room k X.A) (hg : Gl X x) (hm : X.mg x = some (.ref f)) (hk : PySem.W.keepIn X.K (.ref f) = true) (hb : Binds X.K fd ps []) (hx : Passes CX X E)
    (ha : PA X (e :: es) (oA S das)) (hdb : (x == ("__debug__" : Str)) = false := by decide) (he : starEach (e :: es) X.env = (false, eval e X.env) :: starEach es X.env := by rfl) (hpl : (backTo pos (starEach es X.env)).any (·.1) = false := by rfl) :
    PE X (.Call (.Name x p) (e :: es) [] pos) (oD S (oCallP g das)) :=
  pe_to (pe_call F hr hg hm hk hb .nil hx ha hdb he hpl) fun σ H Q ⟨A, μ, H0, G, ρ, en, W, hd⟩ =>
    ⟨A, μ, H0, G, ρ, en, W, hd.bind2.imp fun p hp A1 G1 H1 vs x1 W1 r1 => by
      obtain ⟨d, h2, k⟩ := all_ofO hp.bind2
      exact ⟨A1, G1, p.1, d, W1.cel, W1.same, by rw [List.append_nil]; exact r1, h2, fun G' H' v x2 r2 => k A1 G' H' v (x1.trans (.of x2)) (W1.ext x2) r2⟩⟩
theorem ioN {r : List V → Hp → VK → Prop} {f : List D → Option D} (h : IsN S.cls r f) (das : OD (List D)) : ∀ σ H Q, oD S (oCallP f das) σ H Q → tCB r (oA S das) σ H Q := fun σ H Q ⟨A, μ, H0, G, ρ, en, W, hd⟩ =>
  ⟨A, μ, H0, G, ρ, en, W, hd.bind2.imp fun p hp A1 G1 H1 vs x1 W1 r1 => by
    obtain ⟨d, h2, k⟩ := all_ofO hp.bind2
    exact h A1 G1 H1 vs p.1 d Q W1.same r1 h2 fun G' H' v x2 r2 => k A1 G' H' v (x1.trans (.of x2)) (W1.ext x2) r2⟩
theorem on_callB {id : String} {r : List V → Hp → VK → Prop} {f : List D → Option D} (h : IsN S.cls r f) (hc : CallR X (.builtin id) r) (hg : Gl X x) (hm : X.mg x = none) (hv : bootBuiltins x = some (.builtin id)) (ha : PA X (e :: es) (oA S das)) (hn : x ≠ "__name__" := by decide) (hdb : (x == ("__debug__" : Str)) = false := by decide)
    (he : starEach (e :: es) X.env = (false, eval e X.env) :: starEach es X.env := by rfl) (hpl : (backTo pos (starEach es X.env)).any (·.1) = false := by rfl) : PE X (.Call (.Name x p) (e :: es) [] pos) (oD S (oCallP f das)) := pe_to (pe_callB hc hg hm hv ha hn hdb he hpl) (ioN h das)
theorem on_callTy {T : String} {r : List V → Hp → VK → Prop} {f : List D → Option D} (h : IsN S.cls r f) (hc : CallR X (.type T) r) (hg : Gl X x) (hm : X.mg x = none) (hv : bootBuiltins x = some (.type T)) (ha : PA X (e :: es) (oA S das)) (hn : x ≠ "__name__" := by decide) (hdb : (x == ("__debug__" : Str)) = false := by decide)
    (he : starEach (e :: es) X.env = (false, eval e X.env) :: starEach es X.env := by rfl) (hpl : (backTo pos (starEach es X.env)).any (·.1) = false := by rfl) : PE X (.Call (.Name x p) (e :: es) [] pos) (oD S (oCallP f das)) := pe_to (pe_callTy hc hg hm hv ha hn hdb he hpl) (ioN h das)
end
/-! statements -/
abbrev OS := List Sl → List Cell → Tr (Out × List Cell)
def tO (S : CS) (den : OS) : TS := fun E σ H => ∃ A0 G0 H0 A μ G ρ, Ex A0 G0 H0 A G H ∧ En S.cls A H0 G H σ ρ ∧ Wd S A μ G H ∧ (den ρ μ).All fun p => FinZ S A0 G0 H0 A G E p.2 p.1
def los (den : ZS) : OS := fun ρ μ => ofO (den ρ μ)
theorem o_liftS {den : ZS} : ∀ E σ H, tO S (los den) E σ H → tZ S den E σ H := fun E σ H ⟨A0, G0, H0, A, μ, G, ρ, x0, en, W, hd⟩ => by
  obtain ⟨⟨o, μ'⟩, h1, k⟩ := all_ofO hd
  exact ⟨A0, G0, H0, A, μ, G, ρ, o, μ', x0, en, W, h1, k⟩
theorem os {st : Stmt} {d : ZS} (h : PS X st (tZ S d)) : PS X st (tO S (los d)) := ps_to h o_liftS
theorem oss {st : List Stmt} {d : ZS} (h : PSs X st (tZ S d)) : PSs X st (tO S (los d)) := pss_to h o_liftS
def vSet (i : Nat) (de : OD D) : OS := fun ρ μ => (de ρ μ).bind fun p => .ret (.nx (ρ.set i (.val p.1)), p.2)
theorem os_set {i : Nat} {x : Str} {e : Expr} {de : OD D} {pos' : Pos} (hN : X.N.Nodup) (he : PE X e (oD S de)) (hi : X.N[i]? = some x := by rfl) (hx : Loc X.env.scope x := by first | exact .inl rfl | exact .inr rfl) (hs : swapsWith e (some (.Name x pos')) pos.line X.env = pure false := by rfl) (hf : X.fn x = true ∨ X.env.scope.names.lookup x = some .local := by first | exact .inl rfl | exact .inr rfl | assumption) :
    PS X (.Assign [.Name x pos'] e pos) (tO S (vSet i de)) :=
  ps_to (ps_set hN hi hx he hs hf) fun E σ H ⟨A0, G0, H0, A, μ, G, ρ, x0, en, W, hd⟩ =>
    ⟨A, μ, H0, G, ρ, en, W, hd.bind2.imp fun p fin A1 G1 H1 v x1 W1 r1 => (show FinZ S A0 G0 H0 A G E p.2 (.nx (ρ.set i (.val p.1))) from fin) A1 G1 H1 (σ.set i (some v)) x1.pre x1.g (x0.trans x1) ((en.up x1 W1).put i r1) W1⟩
def vAsg (de : OD D) (g : ZG) : OS := fun ρ μ => (de ρ μ).bind fun p => (ofO (g p.1 ρ p.2)).bind fun q => .ret (.nx q.1, q.2)
theorem os_asg {tg e : Expr} {de : OD D} {g : ZG} (he : PE X e (oD S de)) (hg : PG X tg (tGZ S g)) (hs : swapsWithSole [tg] e pos.line X.env = pure false := by rfl) (hw : swappedStores [tg] e X.env = pure none := by rfl)
    (h1 : (assignEach [tg] X.env).map (·.2) = [assign tg X.env] := by rfl) : PS X (.Assign [tg] e pos) (tO S (vAsg de g)) :=
  ps_to (ps_asg he hg hs hw h1) fun E σ H ⟨A0, G0, H0, A, μ, G, ρ, x0, en, W, hd⟩ =>
    ⟨A, μ, H0, G, ρ, en, W, hd.bind2.imp fun p hp A1 G1 H1 v x1 W1 r1 => by
      obtain ⟨⟨ρ', μ2⟩, h2, fin⟩ := all_ofO hp.bind2
      exact ⟨A1, p.2, H0, G1, ρ, p.1, ρ', μ2, en.up x1 W1, W1, r1, h2, fun σ2 A2 G2 H2 x2 en2 W2 => (show FinZ S A0 G0 H0 A G E μ2 (.nx ρ') from fin) A2 G2 H2 σ2 (pre_tr x1.pre x2.pre) (x1.g.trans x2.g) ((x0.trans x1).trans x2) en2 W2⟩⟩
def vRet (de : OD D) : OS := fun ρ μ => (de ρ μ).bind fun p => .ret (.rt p.1, p.2)
theorem os_ret {e : Expr} {de : OD D} (he : PE X e (oD S de)) : PS X (.Return (some e) pos) (tO S (vRet de)) :=
  ps_to (ps_ret he) fun E σ H ⟨A0, G0, H0, A, μ, G, ρ, x0, en, W, hd⟩ =>
    ⟨A, μ, H0, G, ρ, en, W, hd.bind2.imp fun p fin A1 G1 H1 v x1 W1 r1 => (show FinZ S A0 G0 H0 A G E p.2 (.rt p.1) from fin) A1 G1 H1 v (x0.trans x1) W1 r1⟩
def vSeq (d e : OS) : OS := fun ρ μ => (d ρ μ).bind fun p => match p.1 with
  | .nx ρ' => e ρ' p.2
  | _ => .ret p
theorem os_cons {st : Stmt} {rest : List Stmt} {d e : OS} (h1 : PS X st (tO S d)) (h2 : PSs X rest (tO S e)) : PSs X (st :: rest) (tO S (vSeq d e)) :=
  pss_to (pss_cons h1 h2) fun E σ H ⟨A0, G0, H0, A, μ, G, ρ, x0, en, W, hd⟩ =>
    ⟨A0, G0, H0, A, μ, G, ρ, x0, en, W, hd.bind2.imp fun p hp => by
      obtain ⟨o, μ1⟩ := p
      cases o with
      | nx ρ1 => exact fun A1 G1 H1 σ1 p1 s1 x1 en1 W1 => ⟨A0, G0, H0, A1, μ1, G1, ρ1, x1, en1, W1, Tr.All.imp (fun q hq => FinZ.mono p1 s1 hq) (show (e ρ1 μ1).All _ from hp)⟩
      | rt d => exact hp
      | bk ρ1 => exact hp
      | ct ρ1 => exact hp⟩
theorem os_one {st : Stmt} {d : OS} (h1 : PS X st (tO S d)) : PSs X [st] (tO S d) := pss_one h1
def vIf (c : OD Bool) (d e : OS) : OS := fun ρ μ => (c ρ μ).bind fun p => if p.1 then d ρ p.2 else e ρ p.2
theorem os_if {c : Expr} {a b : List Stmt} {dc : OD Bool} {d e : OS} (hc : PT X c (oB S dc)) (ha : PSs X a (tO S d)) (hb : PSs X b (tO S e)) : PS X (.If c a b pos) (tO S (vIf dc d e)) :=
  ps_to (ps_if hc ha hb) fun E σ H ⟨A0, G0, H0, A, μ, G, ρ, x0, en, W, hd⟩ =>
    ⟨A, μ, H0, G, ρ, en, W, hd.bind2.imp fun p hp A1 G1 H1 v x1 W1 r1 => by
      obtain ⟨b, μ1⟩ := p
      obtain rfl : v = b := r1
      cases v with
      | true => exact ⟨A0, G0, H0, A1, μ1, G1, ρ, x0.trans x1, en.up x1 W1, W1, Tr.All.imp (fun q hq => FinZ.mono x1.pre x1.g hq) (show (d ρ μ1).All _ from hp)⟩
      | false => exact ⟨A0, G0, H0, A1, μ1, G1, ρ, x0.trans x1, en.up x1 W1, W1, Tr.All.imp (fun q hq => FinZ.mono x1.pre x1.g hq) (show (e ρ μ1).All _ from hp)⟩⟩
end
end DN

set_option maxHeartbeats 1000000
/-! trees of draws: loops, comprehensions, defs, the state, a law -/
namespace DN
open PySem PySem.Spec PyProof.Rows L2 KG
section
variable {X : Cx} {S : CS} {pos : Pos}
abbrev OL := List Sl → List Cell → Tr (List D × List Cell)
def tIO (S : CS) (den : OL) : TI := fun σ H R => ∃ A μ H0 G ρ, En S.cls A H0 G H σ ρ ∧ Wd S A μ G H ∧ (den ρ μ).All fun p => ∀ J A' G' H', Ex A G H A' G' H' → Wd S A' p.2 G' H' → Wk S.cls A' J G' p.1 → R J H'
def loi (den : ZL) : OL := fun ρ μ => ofO (den ρ μ)
theorem oi {tg it : Expr} {d : ZL} (h : PI X tg it (tIZ S d)) : PI X tg it (tIO S (loi d)) := pi_to h fun σ H R ⟨A, μ, H0, G, ρ, en, W, hd⟩ => by
  obtain ⟨⟨ds, μ1⟩, h1, k⟩ := all_ofO hd
  exact ⟨A, μ, H0, G, ρ, ds, μ1, en, W, h1, k⟩
/-- for v in e, e a list or tuple that is drawn -/
def oiSeq (d : OD D) : OL := fun ρ μ => (d ρ μ).bind fun p => (ofO (seqD p.1)).bind fun ds => .ret (ds, p.2)
/-- range(e) with draws in e -/
def oiRng (f : List D → Option (List D)) (das : OD (List D)) : OL := fun ρ μ => (das ρ μ).bind fun p => (ofO (f p.1)).bind fun ds => .ret (ds, p.2)
def oforD (g : D → List Sl → Option (List Sl)) (body : OS) : List D → OS
  | [], ρ, μ => .ret (.nx ρ, μ)
  | d :: ds, ρ, μ => (ofO (g d ρ)).bind fun ρ1 => (body ρ1 μ).bind fun p => match p.1 with
    | .nx ρ2 => oforD g body ds ρ2 p.2
    | .ct ρ2 => oforD g body ds ρ2 p.2
    | .bk ρ2 => .ret (.nx ρ2, p.2)
    | .rt d => .ret (.rt d, p.2)
def vFor (di : OL) (g : D → List Sl → Option (List Sl)) (body : OS) : OS := fun ρ μ => (di ρ μ).bind fun p => oforD g body p.1 ρ p.2
theorem os_for {tg iter : Expr} {body : List Stmt} {is : List Nat} {di : OL} {g : D → List Sl → Option (List Sl)} {db : OS} (hp : PassesOwn (model X.prog X.w) X.A X.env X.xe) (hc : X.calm = true) (hi : PI X tg iter (tIO S di)) (hg : PG X tg (tG S.cls is g)) (hb : PSs X body (tO S db))
    (hs : ∀ x, foldedSetIterable iter X.env x = pure x := by intro _; rfl) : PS X (.For tg iter body [] pos) (tO S (vFor di g db)) :=
  ps_to (ps_for hp hc hi hg hb hs) fun E σ H ⟨A0, G0, H0, A, μ, G, ρ, x0, en, W, hd⟩ =>
    ⟨A, μ, H0, G, ρ, en, W, hd.bind2.imp fun p hp J A1 G1 H1 x1 W1 wk => by
      obtain ⟨ds, μ1⟩ := p
      refine ⟨fun i m σ2 H2 => m = ds.length - i ∧ i ≤ ds.length ∧ ∃ A2 μ2 G2 ρ2, (∃ nw, A2 = A1 ++ nw) ∧ Same G1 G2 ∧ Ex A0 G0 H0 A2 G2 H2 ∧ En S.cls A2 H0 G2 H2 σ2 ρ2 ∧ Wd S A2 μ2 G2 H2 ∧ (oforD g db (ds.drop i) ρ2 μ2).All fun q => FinZ S A0 G0 H0 A G E q.2 q.1,
        ⟨ds.length, by simp, Nat.zero_le _, A1, μ1, G1, ρ, pre_rf, fun _ _ h => h, x0.trans x1, en.up x1 W1, W1, hp⟩, ?_⟩
      rintro i m σ2 H2 ⟨rfl, hi, A2, μ2, G2, ρ2, p2, s2, x2, en2, W2, hf⟩
      obtain ⟨wstop, wgo⟩ := wk i G2 H2 s2 W2.same
      by_cases lt : i < ds.length
      · have gd : ds[i]? = some ds[i] := List.getElem?_eq_getElem lt
        obtain ⟨go, yl⟩ := wgo _ gd
        rw [List.drop_eq_getElem_cons lt] at hf
        unfold oforD at hf
        obtain ⟨ρ3, g1, hf⟩ := all_ofO hf.bind2
        have hf := hf.bind2
        refine .inr ⟨go, fun σ' H' => ∃ A2 μ2 G2 ρ2, (∃ nw, A2 = A1 ++ nw) ∧ Same G1 G2 ∧ Ex A0 G0 H0 A2 G2 H' ∧ En S.cls A2 H0 G2 H' σ' ρ2 ∧ Wd S A2 μ2 G2 H' ∧ (oforD g db (ds.drop (i + 1)) ρ2 μ2).All fun q => FinZ S A0 G0 H0 A G E q.2 q.1, fun σ' H' hN => ⟨ds.length - (i + 1), by omega, rfl, lt, hN⟩, fun x H3 hy => ?_⟩
        obtain ⟨G3, x3, r3⟩ := yl x H3 hy
        have X3 := Ex.of (A := A2) x3
        have W3 := W2.ext x3
        refine ⟨A2, H0, G3, ρ2, _, ρ3, en2.up X3 W3, x3.s, r3.up p2 (fun _ _ h => h), g1, fun σ4 G4 H4 x4 en4 _ => ⟨A0, G0, H0, A2, μ2, G4, ρ3, (x2.trans X3).trans (.of x4), en4, W3.ext x4, hf.imp fun q hq => ?_⟩⟩
        have s4 : Same G1 G4 := (s2.trans x3.g).trans x4.g
        obtain ⟨o3, μ3⟩ := q
        cases o3 with
        | nx ρ5 => exact fun A5 G5 H5 σ5 p5 s5 x5 en5 W5 => ⟨A5, μ3, G5, ρ5, pre_tr p2 p5, s4.trans s5, x5, en5, W5, hq⟩
        | ct ρ5 => exact fun A5 G5 H5 σ5 p5 s5 x5 en5 W5 => ⟨A5, μ3, G5, ρ5, pre_tr p2 p5, s4.trans s5, x5, en5, W5, hq⟩
        | bk ρ5 => exact fun A5 G5 H5 σ5 p5 s5 x5 en5 W5 => (show FinZ S A0 G0 H0 A G E μ3 (.nx ρ5) from hq) A5 G5 H5 σ5 (pre_tr x1.pre (pre_tr p2 p5)) ((x1.g.trans s4).trans s5) x5 en5 W5
        | rt d => exact hq
      · have ei : i = ds.length := by omega
        subst ei
        rw [List.drop_length] at hf
        exact .inl ⟨wstop rfl, (show FinZ S A0 G0 H0 A G E μ2 (.nx ρ2) from hf) A2 G2 H2 σ2 (pre_tr x1.pre p2) (x1.g.trans s2) x2 en2 W2⟩⟩
def owhileD (c : OD Bool) (body : OS) : Nat → OS
  | 0, _, _ => .bad
  | n + 1, ρ, μ => (c ρ μ).bind fun q => if q.1 then (body ρ q.2).bind fun p => match p.1 with
      | .nx ρ2 => owhileD c body n ρ2 p.2
      | .ct ρ2 => owhileD c body n ρ2 p.2
      | .bk ρ2 => .ret (.nx ρ2, p.2)
      | .rt d => .ret (.rt d, p.2)
    else .ret (.nx ρ, q.2)
theorem os_while {c : Expr} {body : List Stmt} {dc : OD Bool} {db : OS} (n : Nat) (hp : PassesOwn (model X.prog X.w) X.A X.env X.xe) (hc : PT X c (oB S dc)) (hb : PSs X body (tO S db)) : PS X (.While c body [] pos) (tO S (owhileD dc db n)) :=
  ps_to (ps_while hp hc hb) fun E σ H ⟨A0, G0, H0, A, μ, G, ρ, x0, en, W, hd⟩ => by
    refine ⟨fun m σ2 H2 => ∃ A2 μ2 G2 ρ2, (∃ nw, A2 = A ++ nw) ∧ Same G G2 ∧ Ex A0 G0 H0 A2 G2 H2 ∧ En S.cls A2 H0 G2 H2 σ2 ρ2 ∧ Wd S A2 μ2 G2 H2 ∧ (owhileD dc db m ρ2 μ2).All fun q => FinZ S A0 G0 H0 A G E q.2 q.1, ⟨n, A, μ, G, ρ, pre_rf, fun _ _ h => h, x0, en, W, hd⟩, ?_⟩
    rintro m σ2 H2 ⟨A2, μ2, G2, ρ2, p2, s2, x2, en2, W2, hf⟩
    cases m with
    | zero => exact hf.elim
    | succ m =>
      unfold owhileD at hf
      refine ⟨A2, μ2, H0, G2, ρ2, en2, W2, hf.bind2.imp fun q hq A3 G3 H3 v x3 W3 r3 => ?_⟩
      obtain ⟨b, μ3⟩ := q
      obtain rfl : v = b := r3
      cases v with
      | true =>
        have hq : ((db ρ2 μ3).bind fun p => match p.1 with
          | .nx ρ2 => owhileD dc db m ρ2 p.2
          | .ct ρ2 => owhileD dc db m ρ2 p.2
          | .bk ρ2 => .ret (.nx ρ2, p.2)
          | .rt d => .ret (.rt d, p.2)).All fun q => FinZ S A0 G0 H0 A G E q.2 q.1 := hq
        rw [if_pos rfl]
        refine ⟨fun σ' H' => ∃ A2 μ2 G2 ρ2, (∃ nw, A2 = A ++ nw) ∧ Same G G2 ∧ Ex A0 G0 H0 A2 G2 H' ∧ En S.cls A2 H0 G2 H' σ' ρ2 ∧ Wd S A2 μ2 G2 H' ∧ (owhileD dc db m ρ2 μ2).All fun q => FinZ S A0 G0 H0 A G E q.2 q.1, fun σ' H' hN => ⟨m, Nat.lt_succ_self _, hN⟩, A0, G0, H0, A3, μ3, G3, ρ2, x2.trans x3, en2.up x3 W3, W3, hq.bind2.imp fun r hr => ?_⟩
        have s4 : Same G G3 := s2.trans x3.g
        have p4 := pre_tr p2 x3.pre
        obtain ⟨o3, μ4⟩ := r
        cases o3 with
        | nx ρ5 => exact fun A5 G5 H5 σ5 p5 s5 x5 en5 W5 => ⟨A5, μ4, G5, ρ5, pre_tr p4 p5, s4.trans s5, x5, en5, W5, hr⟩
        | ct ρ5 => exact fun A5 G5 H5 σ5 p5 s5 x5 en5 W5 => ⟨A5, μ4, G5, ρ5, pre_tr p4 p5, s4.trans s5, x5, en5, W5, hr⟩
        | bk ρ5 => exact fun A5 G5 H5 σ5 p5 s5 x5 en5 W5 => (show FinZ S A0 G0 H0 A G E μ4 (.nx ρ5) from hr) A5 G5 H5 σ5 (pre_tr p4 p5) (s4.trans s5) x5 en5 W5
        | rt d => exact hr
      | false =>
        have hq : FinZ S A0 G0 H0 A G E μ3 (.nx ρ2) := hq
        rw [if_neg Bool.false_ne_true]
        exact hq A3 G3 H3 σ2 (pre_tr p2 x3.pre) (s2.trans x3.g) (x2.trans x3) (en2.up x3 W3) W3
/-! comprehensions -/
def olcD (g : D → List Sl → Option (List Sl)) (te : OD D) (ρ : List Sl) : List D → List Cell → Tr (List D × List Cell)
  | [], μ => .ret ([], μ)
  | d :: ds, μ => (ofO (g d ρ)).bind fun ρ1 => (te ρ1 μ).bind fun p => (olcD g te ρ ds p.2).bind fun r => .ret (p.1 :: r.1, r.2)
def oLc (di : OL) (g : D → List Sl → Option (List Sl)) (te : OD D) (vs : List Nat) : OD D := fun ρ μ =>
  (di ρ μ).bind fun p => if decide (p.1.length ≤ szB) then (olcD g te (wipeD ρ vs) p.1 p.2).bind fun r => .ret (.lst r.1, r.2) else .bad
theorem olc_ok {is vs : List Nat} {di : OL} {g : D → List Sl → Option (List Sl)} {te : OD D} (hv : ∀ i ∈ is, i ∈ vs) :
    ∀ σ H Q, oD S (oLc di g te vs) σ H Q → tLc (tIO S di) (tG S.cls is g) (tB S.cls bYes) (oD S te) vs σ H Q := fun σ H Q ⟨A, μ, H0, G, ρ, en, W, hd⟩ =>
  ⟨A, μ, H0, G, ρ, en, W, hd.bind2.imp fun p hp J A1 G1 H1 x1 W1 wk Dl nD => by
    obtain ⟨ds, μ1⟩ := p
    obtain ⟨hz, hp⟩ := all_if hp
    have k : (olcD g te (wipeD ρ vs) ds μ1).All fun r => ∀ A' G' H' v, Ex A G H A' G' H' → Wd S A' r.2 G' H' → Rp S.cls A' G' v (.lst ([] ++ r.1)) → Q v H' := hp.bind2
    have en1 := en.up x1 W1
    have ng : G1 Dl = none := none_of W1.same nD
    have nA : Dl ∉ A1 := fun z => by
      obtain ⟨⟨o, k1⟩, _⟩ := W1.cel _ z
      rw [nD] at k1; cases k1
    refine ⟨fun i m H2 => m = ds.length - i ∧ i ≤ ds.length ∧ ∃ A2 μ3 G2 ys rs, Ex A1 G1 H1 A2 G2 H2 ∧ Wd S A2 μ3 G2 H2 ∧ Dl ∉ A2 ∧ G2 Dl = none ∧ H2 Dl = some (.lst ys) ∧ RpAll S.cls A2 G2 ys rs ∧ rs.length ≤ i ∧ (olcD g te (wipeD ρ vs) (ds.drop i) μ3).All fun r => ∀ A' G' H' v, Ex A G H A' G' H' → Wd S A' r.2 G' H' → Rp S.cls A' G' v (.lst (rs ++ r.1)) → Q v H',
      ⟨ds.length, by simp, Nat.zero_le _, A1, μ1, G1, [], [], .of (.lay W1.same nD _), W1.updN ng nA, nA, ng, upd_same, .nil, Nat.le_refl _, k⟩, ?_⟩
    rintro i m H2 ⟨rfl, hi, A2, μ3, G2, ys, rs, x2, W2, nA2, n2, e2, r2, hrs, hl⟩
    obtain ⟨wstop, wgo⟩ := wk i G2 H2 x2.g W2.same
    by_cases lt : i < ds.length
    · have gd : ds[i]? = some ds[i] := List.getElem?_eq_getElem lt
      obtain ⟨go, yl⟩ := wgo _ gd
      rw [List.drop_eq_getElem_cons lt] at hl
      unfold olcD at hl
      obtain ⟨ρ1, g1, hl⟩ := all_ofO hl.bind2
      have hl := hl.bind2
      refine .inr ⟨go, fun H' => ∃ A2 μ3 G2 ys rs, Ex A1 G1 H1 A2 G2 H' ∧ Wd S A2 μ3 G2 H' ∧ Dl ∉ A2 ∧ G2 Dl = none ∧ H' Dl = some (.lst ys) ∧ RpAll S.cls A2 G2 ys rs ∧ rs.length ≤ i + 1 ∧ (olcD g te (wipeD ρ vs) (ds.drop (i + 1)) μ3).All fun r => ∀ A' G' H' v, Ex A G H A' G' H' → Wd S A' r.2 G' H' → Rp S.cls A' G' v (.lst (rs ++ r.1)) → Q v H',
        fun H' hN => ⟨ds.length - (i + 1), by omega, rfl, lt, hN⟩, fun x H3 hy => ?_⟩
      obtain ⟨G3, x3, r3⟩ := yl x H3 hy
      have W3 := W2.ext x3
      have en3 : En S.cls A2 H0 G3 H3 (wipe σ vs) (wipeD ρ vs) := ((en1.up x2 W2).ext x3).wipe vs
      refine ⟨A2, H0, G3, _, _, ρ1, en3, x3.s, r3.up x2.pre (fun _ _ h => h), g1, fun σ4 G4 H4 x4 en4 w4 => ⟨by rw [w4 vs hv, wipe_idem], A2, H0, G4, ρ1, true, en4, x4.s, rfl, fun G5 H5 v x5 hv5 => ?_⟩⟩
      obtain rfl : v = true := hv5
      rw [if_pos rfl]
      have x345 := (x3.trans x4).trans x5
      have W5 := W2.ext x345
      refine ⟨A2, μ3, H0, G5, ρ1, en4.ext x5, W5, hl.imp fun q hq A6 G6 H6 yv x6 W6 r6 => ?_⟩
      obtain ⟨y, μ4⟩ := q
      have e5 : H5 Dl = some (.lst ys) := x345.h _ _ e2
      have n5 : G5 Dl = none := x345.f _ _ e2 n2
      have nA6 : Dl ∉ A6 := fun z => by
        obtain ⟨nw, q1, q2⟩ := x6.a
        rw [q1] at z
        rcases List.mem_append.mp z with z | z
        · exact nA2 z
        · rw [q2 _ z] at e5; cases e5
      have e6 : H6 Dl = some (.lst ys) := x6.h _ _ nA2 e5
      have n6 : G6 Dl = none := x6.f _ _ e5 n5
      have X6 := (x2.trans (.of x345)).trans x6
      have hlen : ys.length < sizeLine := by
        rw [r2.len]
        have hz' : ds.length ≤ szB := of_decide_eq_true hz
        exact sz_lt (decide_eq_true (show rs.length ≤ szB by omega))
      refine ⟨ys, e6, hlen, A6, μ4, G6, ys ++ [yv], rs ++ [y], ⟨X6.a, X6.g, fun b o nb q => ?_, X6.f, fun b o q => ?_⟩, W6.updN n6 nA6, nA6, n6, upd_same, (((r2.mono x345.g).up x6.pre x6.g).append (.cons r6 .nil)), ?_, ?_⟩
      · rw [upd_ne (ne_of_none q nD)]; exact X6.h _ _ nb q
      · rw [upd_ne (ne_of_none q nD)]; exact X6.l _ _ q
      · rw [List.length_append, List.length_singleton]; omega
      · refine hq.bind2.imp fun r hr => ?_
        have e : rs ++ [y] ++ r.1 = rs ++ (y :: r.1) := by rw [List.append_assoc]; rfl
        rw [e]
        exact hr
    · have ei : i = ds.length := by omega
      subst ei
      rw [List.drop_length] at hl
      have hl : ∀ A' G' H' v, Ex A G H A' G' H' → Wd S A' μ3 G' H' → Rp S.cls A' G' v (.lst (rs ++ [])) → Q v H' := hl
      rw [List.append_nil] at hl
      have sg : Same G2 (upd G2 Dl (.lst ys)) := same_new n2 _
      refine .inl ⟨wstop rfl, hl A2 (upd G2 Dl (.lst ys)) H2 _ (x1.trans ⟨x2.a, x2.g.trans sg, x2.h, fun b o q q' => ?_, x2.l⟩) ⟨fun b o q => ?_, W2.len, W2.nd, fun j a c q1 q2 => ?_⟩ (.lst upd_same (r2.mono sg))⟩
      · rw [upd_ne (ne_of_none q nD)]; exact x2.f _ _ q q'
      · by_cases z : b = Dl
        · subst z; rw [upd_same] at q; cases q; exact e2
        · rw [upd_ne z] at q; exact W2.same _ _ q
      · obtain ⟨n', ok⟩ := W2.cell j a c q1 q2
        refine ⟨?_, ok.up pre_rf sg rfl⟩
        rw [upd_ne (fun z => by subst z; exact nA2 (List.mem_of_getElem? q1))]; exact n'⟩
theorem on_lc {elt tg iter : Expr} {scope : Scope} {own : List (Str × Nat)} {is : List Nat} {di : OL} {g : D → List Sl → Option (List Sl)} {te : OD D} (hc : X.calm = true) (hN : X.N.Nodup) (hi : PI X tg iter (tIO S di)) (ok : BlkOk X.N X.env.scope scope own)
    (hg : ∀ (s : Shared) (H : Hp) (A : Addr) (cl : List (Str × Addr)) (fp : List Addr), PG (X.blk s H scope (compEnvC scope cl A X.env) fp) tg (tG S.cls is g))
    (he : ∀ (s : Shared) (H : Hp) (A : Addr) (cl : List (Str × Addr)) (fp : List Addr), PE (X.blk s H scope (compEnvC scope cl A X.env) fp) elt (oD S te)) (hv : ∀ i ∈ is, i ∈ own.map (·.2) := by decide) (hs : ∀ x, foldedSetIterable iter X.env x = pure x := by intro _; rfl) :
    PE X (.ListComp elt [⟨tg, iter, [], 0⟩] scope pos) (oD S (oLc di g te (own.map (·.2)))) :=
  pe_to (pe_lc hc hN hi ok hg (fun _ _ _ _ _ => dts_nil) he hs) (olc_ok hv)
end
/-! defs, the state -/
def runO (np n : Nat) (den : OS) : FnT := fun ds μ => if ds.length == np then (den (start0 n ds) μ).bind fun p => match p.1 with
    | .rt d => .ret (d, p.2)
    | .nx _ => .ret (.non, p.2)
    | _ => .bad
  else .bad
theorem all_cond {α : Type} {p : α → Prop} {c : Bool} {t u : Tr α} (h : (if c then t else u).All p) : (c = true ∧ t.All p) ∨ (c = false ∧ u.All p) := by
  cases c with
  | true => exact .inl ⟨rfl, h⟩
  | false => exact .inr ⟨rfl, h⟩
section
variable {P : Program} {w : World} {K : PySem.W.Frag} {mg : Str → Option Value} {base : Heap}
theorem fnO_den {Z : CS} {x qual : Str} {st : Stmt} {f : Addr} {fd : FuncData} {N ps : List Str} {k : Nat} {den : OS} (F : Fun K x qual st f fd) (S : FnScope N ps (defScope st))
    (hbody : ∀ (cdv : Value) (A : Around) (outer : List Env) (s : Shared) (H : Hp) (E : XK), Room k (A.deeper (envOfC qual (defScope st) s.heap.objs.size f cdv)) →
      PSs (cxOf CX0 P w K mg base N qual (defScope st) f cdv A outer s H E).nox (defBody st) (tO Z den)) : FnOk P w K mg base CX0 (k + 1) f fd ps (SpO Z (runO ps.length N.length den)) := by
  have hpl : ps.length ≤ N.length := by have := congrArg List.length S.pre; rw [List.length_take] at this; omega
  refine F.ok S (fun vs H Q E h => ?_) (fun cdv A outer s H vs Q E hr h => ⟨_, hbody cdv A outer s H E hr, ?_⟩)
  · obtain ⟨A, μ, G, ds, W, r, hd⟩ := h
    unfold runO at hd
    obtain ⟨hl, _⟩ := all_if hd
    rw [r.len]
    exact beq_iff_eq.mp hl
  · obtain ⟨A, μ, G, ds, W, r, hd⟩ := h
    unfold runO at hd
    obtain ⟨hl, hd⟩ := all_if hd
    refine ⟨A, G, H, A, μ, G, _, .refl, start_en W.cel r (by rw [r.len, beq_iff_eq.mp hl]; exact hpl), W, hd.bind2.imp fun p hp => ?_⟩
    obtain ⟨o, μ1⟩ := p
    cases o with
    | rt d' => exact fun A1 G1 H1 v x1 W1 r1 => (show ∀ A' G' H' v, Ex A G H A' G' H' → Wd Z A' μ1 G' H' → Rp Z.cls A' G' v d' → Q v H' from hp) A1 G1 H1 v x1 W1 r1
    | nx ρ => exact fun A1 G1 H1 σ1 p1 s1 x1 en1 W1 => (show ∀ A' G' H' v, Ex A G H A' G' H' → Wd Z A' μ1 G' H' → Rp Z.cls A' G' v .non → Q v H' from hp) A1 G1 H1 .non x1 W1 .non
    | bk ρ => exact hp.elim
    | ct ρ => exact hp.elim
/-- a draw -/
def drawT : FnT := fun ds μ => match ds with
  | [.ref i, .int m] => match μ[i]? with
    | some .ora => .ask m fun d => .ret (.int d, μ)
    | _ => .bad
  | _ => .bad
theorem drawT_ok {S : CS} (hK : K = S.K) {f : Addr} {fd : FuncData} {ps : List Str} {k : Nat} {sp : Sp} (hsp : sp = fun vs H Q _ => ∃ (p a : Addr) (ns : List Int) (many : Int), vs = [.ref p, .int many] ∧ StX H p a ns ∧ SqO K H p a (ns.map V.int) ∧ 0 < many ∧ many.natAbs.log2 < 9000 ∧
    ∀ (d : Int) (H' : Hp), 0 ≤ d → d < many → StX H' p a ns → But p H H' → Q (.int d) H') (F : FnOk P w K mg base CX0 k f fd ps sp) : FnOk P w K mg base CX0 k f fd ps (SpO S drawT) := F.imp fun vs H Q E ⟨A, μ, G, ds, W, r, hd⟩ => by
  subst hsp
  unfold drawT at hd
  split at hd
  · rename_i i m
    split at hd
    · rename_i hc
      cases r with
      | cons r1 r2 => cases r2 with
        | cons r2 r3 =>
          cases r3
          cases r2
          cases r1 with
          | @ref _ a hi =>
            obtain ⟨⟨m0, m9⟩, hd⟩ := hd
            obtain ⟨na, sa, ns, st, sq⟩ := W.cell i a _ hi hc
            have sqo : SqO K H a sa (ns.map V.int) := fun o => by
              subst hK
              rcases sq with (h | ⟨u, h⟩) | h
              · exact .inl (.inl (by rw [upd_ne (fun z => by rw [z, na] at h; cases h)]; exact W.same _ _ h))
              · exact .inl (.inr ⟨u, by rw [upd_ne (fun z => by rw [z, na] at h; cases h)]; exact W.same _ _ h⟩)
              · exact .inr h
            have ha : a ∈ A := List.mem_of_getElem? hi
            refine ⟨a, sa, ns, m, rfl, st, sqo, m0, m9, fun d H' d0 d1 st' bt => hd d d0 d1 A G H' _ ⟨⟨[], by simp, fun _ h => by cases h⟩, fun _ _ h => h, fun b o nb h => bt b o (fun z => by subst z; exact nb ha) h, fun _ _ _ h => h, fun b o h => ?_⟩ ⟨fun b o h => bt b o (fun z => by rw [z, na] at h; cases h) (W.same _ _ h), W.len, W.nd, fun j b c h1 h2 => ?_⟩ (.int d)⟩
            · by_cases z : b = a
              · subst z
                obtain ⟨e, r', c', m', q, _⟩ := st'
                exact ⟨_, q⟩
              · exact ⟨o, bt b o z h⟩
            · obtain ⟨n', ok⟩ := W.cell j b c h1 h2
              refine ⟨n', ?_⟩
              by_cases z : b = a
              · subst z
                have : j = i := (List.getElem?_inj (List.getElem?_eq_some_iff.mp h1).1 W.nd).mp (h1.trans hi.symm)
                subst this
                rw [hc] at h2
                cases h2
                exact ⟨sa, ns, st', sq⟩
              · obtain ⟨o, e⟩ := ok.some
                exact ok.up pre_rf (fun _ _ h => h) ((bt b o z e).trans e.symm)
    · exact hd.elim
  · exact hd.elim
/-- a law whose draws' tree is true at every leaf -/
def startL (n : Nat) : List Sl := (List.replicate n Sl.off).set 1 (.val (.ref 0))
def isTrue1 (p : Out × List Cell) : Prop := p.1 = .rt (.bl true)
theorem law_start {Z : CS} (hK : K = Z.K) {N : List Str} {den : OS} (hN : 2 ≤ N.length) (hall : (den (startL N.length) [.ora]).All isTrue1) {H H1 : Hp} {a p : Addr} {ns : List Int} {σ : L2.St} (hσ : σ = (L2.start N [V.ref a]).set 1 (some (.ref p)))
    (hS : SqL K H a (ns.map V.int)) (sm : Same H H1) (hp : H p = none) (st : StX H1 p a ns) {E : Ends} (fin : ∀ H', E.rt (.bl true) H') : tO Z den E σ H1 := by
  subst hσ
  subst hK
  have hG : ∀ b o, (fun b => if b = a then H a else none : Hp) b = some o → b = a ∧ H a = some o := fun b o q => by
    by_cases z : b = a
    · exact ⟨z, by simpa [z] using q⟩
    · simp [z] at q
  have W : Wd Z [p] [.ora] (fun b => if b = a then H a else none) H1 := by
    refine ⟨fun b o q => ?_, rfl, by simp, fun i b c h1 h2 => ?_⟩
    · obtain ⟨rfl, q⟩ := hG b o q
      exact sm _ _ q
    · match i, h1, h2 with
      | 0, h1, h2 =>
        cases h1
        cases h2
        refine ⟨?_, a, ns, st, ?_⟩
        · by_cases z : p = a
          · subst z; simpa using hp
          · simp [z]
        · rcases hS with (h | ⟨u, h⟩) | h
          · exact .inl (.inl (by simpa using h))
          · exact .inl (.inr ⟨u, by simpa using h⟩)
          · exact .inr h
      | i + 1, h1, h2 => simp at h1
  have hl : (L2.start N [V.ref a]).length = N.length := by
    unfold L2.start
    rw [List.length_append, List.length_map, List.length_replicate]
    simp
    omega
  have sl : ∀ (i : Nat) (s : Sl), (startL N.length)[i]? = some s → (i = 1 ∧ s = .val (.ref 0)) ∨ s = .off := fun i s q => by
    unfold startL at q
    rcases set_get q with ⟨rfl, rfl, _⟩ | ⟨_, q⟩
    · exact .inl ⟨rfl, rfl⟩
    · rw [List.getElem?_replicate] at q
      split at q
      · cases q; exact .inr rfl
      · cases q
  refine ⟨[p], _, H1, [p], [.ora], _, startL N.length, .refl, ⟨?_, fun i d h => ?_, fun i ds h => ?_, fun i j l m b h => ?_, W.cel⟩, W, hall.imp fun q hq => ?_⟩
  · rw [List.length_set, hl]
    unfold startL
    rw [List.length_set, List.length_replicate]
  · rcases sl i _ h with ⟨rfl, e⟩ | e
    · cases e
      exact ⟨.ref p, List.getElem?_set_self (by rw [hl]; omega), .ref rfl⟩
    · cases e
  · rcases sl i _ h with ⟨rfl, e⟩ | e <;> cases e
  · rcases sl i _ h with ⟨rfl, e⟩ | e <;> cases e
  · obtain ⟨o, μ'⟩ := q
    obtain rfl : o = .rt (.bl true) := hq
    intro A' G' H' v x1 W1 r1
    cases r1
    exact fin H'
end
end DN

set_option maxHeartbeats 1000000
/-! lists of one's own among draws; lists as cells: more -/
namespace DN
open PySem PySem.Spec PyProof.Rows L2 KG
section
variable {X : Cx} {S : CS} {pos : Pos}
def vApp (i : Nat) (de : OD D) : OS := fun ρ μ => match ownD i ρ with
  | some ds => (de ρ μ).bind fun p => if decide (ds.length ≤ szB) then .ret (.nx (ρ.set i (.own (ds ++ [p.1]))), p.2) else .bad
  | none => .bad
theorem os_app {i : Nat} {x : Str} {e : Expr} {de : OD D} {apos epos p : Pos} (he : PE X e (oD S de)) (hi : X.N[i]? = some x := by rfl) (hv : Vis X.env.scope x := by first | exact .inl rfl | exact .inr (.inl rfl) | exact .inr (.inr rfl)) (hd : (x == ("__debug__" : Str)) = false := by decide) (hcd : (x == ("__classdict__" : Str)) = false := by decide)
    (hps : ∀ {t : TE}, PE X (.Call (.Attribute (.Name x p) "append" apos) [e] [] epos) t → PS X (.Expr (.Call (.Attribute (.Name x p) "append" apos) [e] [] epos) pos) (tDrop t))
    (hpe : ∀ {to : TE} {t : TA}, PE X (.Name x p) to → PA X [e] t → PE X (.Call (.Attribute (.Name x p) "append" apos) [e] [] epos) (tBM X.K "list" rAppend to t))
    (hst : starEach [e] X.env = (false, eval e X.env) :: starEach [] X.env := by rfl) :
    PS X (.Expr (.Call (.Attribute (.Name x p) "append" apos) [e] [] epos) pos) (tO S (vApp i de)) :=
  ps_to (hps (hpe (pe_var hi hv hd hcd) (pa_cons he pa_nil hst))) fun E σ H ⟨A0, G0, H0, A, μ, G, ρ, x0, en, W, hd⟩ => by
    unfold vApp at hd
    split at hd
    · rename_i ds h1
      have ho := ownD_ok h1
      obtain ⟨a, vs, p1, p2, p3, p4, p5, p6⟩ := en.own i ds ho
      refine ⟨_, p1, .inl ⟨rfl, vs, .of p2⟩, A, μ, H0, G, ρ, en, W, hd.bind2.imp fun q hq A1 G1 H1 v x1 W1 r1 => ?_⟩
      obtain ⟨hz, fin⟩ := all_if hq
      have en1 := en.up x1 W1
      obtain ⟨a', vs', q1, q2, q3, q4, q5, q6⟩ := en1.own i ds ho
      rw [p1] at q1
      cases q1
      refine ⟨a, vs', v, rfl, rfl, q2, by rw [q5.len]; exact sz_lt hz, ?_⟩
      have X1 := x0.trans x1
      exact (show FinZ S A0 G0 H0 A G E q.2 (.nx (ρ.set i (.own (ds ++ [q.1])))) from fin) A1 G1 _ σ x1.pre x1.g ⟨X1.a, X1.g, fun b o nb h => by rw [upd_ne (ne_of_none h q4)]; exact X1.h b o nb h, X1.f, fun b o h => by rw [upd_ne (ne_of_none h q4)]; exact X1.l b o h⟩ (en1.grow ho p1 (q5.append (.cons r1 .nil))) (W1.updN q3 q6)
    · exact hd.elim
def vFrz (i : Nat) (den : OS) : OS := fun ρ μ => match ownD i ρ with
  | some ds => den (ρ.set i (.val (.lst ds))) μ
  | none => .bad
theorem oss_frz {i : Nat} {sts : List Stmt} {den : OS} (h : PSs X sts (tO S den)) : PSs X sts (tO S (vFrz i den)) :=
  pss_to h fun E σ H ⟨A0, G0, H0, A, μ, G, ρ, x0, en, W, hd⟩ => by
    unfold vFrz at hd
    split at hd
    · rename_i ds h1
      have ho := ownD_ok h1
      obtain ⟨a, vs, p1, p2, p3, p4, p5, p6⟩ := en.own i ds ho
      obtain ⟨en2, s2, s3⟩ := en.freeze W.same ho p1 p2 p5
      refine ⟨A0, G0, H0, A, μ, _, _, ⟨x0.a, x0.g.trans s2, x0.h, fun b o q q' => by rw [upd_ne (ne_of_none q p4)]; exact x0.f b o q q', x0.l⟩, en2, ⟨s3, W.len, W.nd, fun j b c h1 h2 => ?_⟩, hd.imp fun q hq => FinZ.mono pre_rf s2 hq⟩
      obtain ⟨n', ok⟩ := W.cell j b c h1 h2
      exact ⟨by rw [upd_ne (fun z => by subst z; exact p6 (List.mem_of_getElem? h1))]; exact n', ok.up pre_rf s2 rfl⟩
    · exact hd.elim
def yFrz (i : Nat) (den : ZS) : ZS := fun ρ μ => (ownD i ρ).bind fun ds => den (ρ.set i (.val (.lst ds))) μ
theorem zss_frz {i : Nat} {sts : List Stmt} {den : ZS} (h : PSs X sts (tZ S den)) : PSs X sts (tZ S (yFrz i den)) :=
  pss_to h fun E σ H ⟨A0, G0, H0, A, μ, G, ρ, o, μ', x0, en, W, hd, fin⟩ => by
    obtain ⟨ds, h1, hd⟩ := obind hd
    have ho := ownD_ok h1
    obtain ⟨a, vs, p1, p2, p3, p4, p5, p6⟩ := en.own i ds ho
    obtain ⟨en2, s2, s3⟩ := en.freeze W.same ho p1 p2 p5
    refine ⟨A0, G0, H0, A, μ, _, _, o, μ', ⟨x0.a, x0.g.trans s2, x0.h, fun b o q q' => by rw [upd_ne (ne_of_none q p4)]; exact x0.f b o q q', x0.l⟩, en2, ⟨s3, W.len, W.nd, fun j b c h1 h2 => ?_⟩, hd, FinZ.mono pre_rf s2 fin⟩
    obtain ⟨n', ok⟩ := W.cell j b c h1 h2
    exact ⟨by rw [upd_ne (fun z => by subst z; exact p6 (List.mem_of_getElem? h1))]; exact n', ok.up pre_rf s2 rfl⟩
/-- xs.append(e) of one's own, e with cells -/
def yApp (i : Nat) (de : SD D) : ZS := fun ρ μ => (ownD i ρ).bind fun ds => (de ρ μ).bind fun p => if decide (ds.length ≤ szB) then some (.nx (ρ.set i (.own (ds ++ [p.1]))), p.2) else none
theorem zs_app {i : Nat} {x : Str} {e : Expr} {de : SD D} {apos epos p : Pos} (he : PE X e (zD S de)) (hi : X.N[i]? = some x := by rfl) (hv : Vis X.env.scope x := by first | exact .inl rfl | exact .inr (.inl rfl) | exact .inr (.inr rfl)) (hd : (x == ("__debug__" : Str)) = false := by decide) (hcd : (x == ("__classdict__" : Str)) = false := by decide)
    (hps : ∀ {t : TE}, PE X (.Call (.Attribute (.Name x p) "append" apos) [e] [] epos) t → PS X (.Expr (.Call (.Attribute (.Name x p) "append" apos) [e] [] epos) pos) (tDrop t))
    (hpe : ∀ {to : TE} {t : TA}, PE X (.Name x p) to → PA X [e] t → PE X (.Call (.Attribute (.Name x p) "append" apos) [e] [] epos) (tBM X.K "list" rAppend to t))
    (hst : starEach [e] X.env = (false, eval e X.env) :: starEach [] X.env := by rfl) :
    PS X (.Expr (.Call (.Attribute (.Name x p) "append" apos) [e] [] epos) pos) (tZ S (yApp i de)) :=
  ps_to (hps (hpe (pe_var hi hv hd hcd) (pa_cons he pa_nil hst))) fun E σ H ⟨A0, G0, H0, A, μ, G, ρ, o, μ', x0, en, W, hd, fin⟩ => by
    obtain ⟨ds, h1, hd⟩ := obind hd
    obtain ⟨⟨d, μ1⟩, h2, hd⟩ := obind hd
    obtain ⟨hz, hd⟩ := oif hd
    cases hd
    have ho := ownD_ok h1
    obtain ⟨a, vs, p1, p2, p3, p4, p5, p6⟩ := en.own i ds ho
    refine ⟨_, p1, .inl ⟨rfl, vs, .of p2⟩, A, μ, H0, G, ρ, d, _, en, W, h2, fun A1 G1 H1 v x1 W1 r1 => ?_⟩
    have en1 := en.up x1 W1
    obtain ⟨a', vs', q1, q2, q3, q4, q5, q6⟩ := en1.own i ds ho
    rw [p1] at q1
    cases q1
    refine ⟨a, vs', v, rfl, rfl, q2, by rw [q5.len]; exact sz_lt hz, ?_⟩
    have X1 := x0.trans x1
    exact fin A1 G1 _ σ x1.pre x1.g ⟨X1.a, X1.g, fun b o nb h => by rw [upd_ne (ne_of_none h q4)]; exact X1.h b o nb h, X1.f, fun b o h => by rw [upd_ne (ne_of_none h q4)]; exact X1.l b o h⟩ (en1.grow ho p1 (q5.append (.cons r1 .nil))) (W1.updN q3 q6)
/-! lists as cells -/
/-- the items of a list: a cell's, or a plain one's -/
def itemsOf (μ : List Cell) : D → Option (List D)
  | .lst ds => some ds
  | d => (lstAt μ d).map (·.2)
theorem itemsOf_ok {A : List Addr} {μ : List Cell} {G H : Hp} (W : Wd S A μ G H) {d : D} {ds : List D} {x : V} (h : itemsOf μ d = some ds) (r : Rp S.cls A G x d) : ∃ a vs, x = .ref a ∧ H a = some (.lst vs) ∧ RpAll S.cls A G vs ds := by
  unfold itemsOf at h
  split at h
  · cases h
    cases r with
    | lst e ra => exact ⟨_, _, rfl, W.same _ _ e, ra⟩
  · rw [Option.map_eq_some_iff] at h
    obtain ⟨⟨i, es⟩, h1, h2⟩ := h
    cases h2
    obtain ⟨_, _, a, vs, e1, _, e2, e3⟩ := lstAt_ok W h1 r
    exact ⟨a, vs, e1, e2, e3⟩
/-- a + b, a new list as a cell -/
def zAddC (da db : SD D) : SD D := fun ρ μ => (da ρ μ).bind fun p => (db ρ p.2).bind fun q => (itemsOf q.2 p.1).bind fun xs => (itemsOf q.2 q.1).bind fun ys => if decide (xs.length + ys.length ≤ szB) then some (.ref q.2.length, q.2 ++ [.lst (xs ++ ys)]) else none
/-- xs[i] = v of a cell -/
def yIxC (da db : SD D) : ZG := fun v ρ μ => (da ρ μ).bind fun p => (db ρ p.2).bind fun q => (lstAt q.2 p.1).bind fun c => match q.1 with
  | .int k => (ixN c.2.length k).bind fun n => some (ρ, q.2.set c.1 (.lst (c.2.set n v)))
  | _ => none
theorem zg_ixC {a b : Expr} {da db : SD D} (ha : PE X a (zD S da)) (hb : PE X b (zD S db))
    (hs : ∀ v, assign (.Subscript a b pos) X.env v = (do
      let ov ← holding [v] (eval a X.env)
      let iv ← holding [v, ov] (eval b X.env)
      standAt pos
      holding [v, ov, iv] (setItem ov iv v)
      release [v, ov, iv] []) := by intro _; rfl) : PG X (.Subscript a b pos) (tGZ S (yIxC da db)) :=
  pg_to (pg_sub ha hb set_list hs) fun v σ H Q ⟨A, μ, H0, G, ρ, d, ρ', μ', en, W, r, hd, k⟩ => by
    obtain ⟨⟨a, μ1⟩, h1, hd⟩ := obind hd
    obtain ⟨⟨b, μ2⟩, h2, hd⟩ := obind hd
    obtain ⟨⟨i, ds⟩, h4, hd⟩ := obind hd
    refine ⟨A, μ, H0, G, ρ, a, μ1, en, W, h1, fun A1 G1 H1 x x1 W1 r1 => ⟨A1, μ1, H0, G1, ρ, b, μ2, en.up x1 W1, W1, h2, fun A2 G2 H2 y x2 W2 r2 => ?_⟩⟩
    obtain ⟨_, hl, c, vs, rfl, gi, g1, g2⟩ := lstAt_ok W2 h4 (r1.up x2.pre x2.g)
    have x12 := x1.trans x2
    cases b with
    | int kk =>
      obtain ⟨n, h5, hd⟩ := obind (show ((ixN ds.length kk).bind fun n => some (ρ, μ2.set i (.lst (ds.set n d)))) = some (ρ', μ') from hd)
      cases hd
      cases r2
      refine ⟨c, vs, _, n, rfl, rfl, g1, by rw [g2.len]; exact h5, ?_⟩
      obtain ⟨W3, x3⟩ := W2.put (c := .lst (ds.set n d)) (o := .lst (vs.set n v)) gi ⟨_, upd_same, g2.set (r.up x12.pre x12.g) n⟩ hl
      exact k σ A2 G2 _ (x12.trans x3) (en.up (x12.trans x3) W3) W3
    | _ => cases hd
/-- len of a cell -/
def zLenC (d : SD D) : SD D := fun ρ μ => (d ρ μ).bind fun p => (lstAt p.2 p.1).bind fun c => some (.int c.2.length, p.2)
theorem zn_lenC {e : Expr} {p : Pos} {d : SD D} (hg : Gl X "len") (hm : X.mg "len" = none) (h : PE X e (zD S d)) (hs : starEach [e] X.env = (false, eval e X.env) :: starEach [] X.env := by rfl) : PE X (.Call (.Name "len" p) [e] [] pos) (zD S (zLenC d)) :=
  pe_to (pe_callB call_len_seq hg hm PySem.boot_len (pa_cons h pa_nil hs) (by decide) (by decide) hs rfl) fun σ H Q ⟨A, μ, H0, G, ρ, z, μ', en, W, hd, k⟩ => by
    obtain ⟨⟨a, μ1⟩, h1, hd⟩ := obind hd
    obtain ⟨⟨i, ds⟩, h2, hd⟩ := obind hd
    cases hd
    refine ⟨A, μ, H0, G, ρ, a, _, en, W, h1, fun A1 G1 H1 v x1 W1 r1 => ?_⟩
    obtain ⟨_, _, b, vs, e0, _, g1, g2⟩ := lstAt_ok W1 h2 r1
    exact ⟨b, vs, by rw [e0], .inl (.of g1), by rw [g2.len]; exact k A1 G1 H1 _ x1 W1 (.int _)⟩
theorem oi_range1 {tg a : Expr} {p : Pos} {das : OD (List D)} (hg : Gl X "range") (hm : X.mg "range" = none) (ha : PA X [a] (oA S das)) (hs : starEach [a] X.env = [(false, eval a X.env)] := by rfl) : PI X tg (.Call (.Name "range" p) [a] [] pos) (tIO S (oiRng r1D das)) :=
  pi_to (pi_range1 hg hm ha hs) fun σ H R ⟨A, μ, H0, G, ρ, en, W, hd⟩ =>
    ⟨A, μ, H0, G, ρ, en, W, hd.bind2.imp fun q hq A1 G1 H1 x x1 W1 r1 => by
      obtain ⟨ds, μ1⟩ := q
      obtain ⟨l, h2, k⟩ := all_ofO hq.bind2
      change r1D ds = some l at h2
      unfold r1D at h2
      split at h2
      · rename_i j
        obtain ⟨hb, e⟩ := oif h2
        cases r1 with
        | cons r1 r2 =>
          cases r2
          cases r1
          refine ⟨_, rfl, (inR_ok hb).1, (inR_ok hb).2, ?_⟩
          subst e
          exact k _ A1 G1 H1 x1 W1 (wk_range _ _)
      · cases h2⟩
section
variable {a b : Expr} {da db : OD D}
theorem on_eq (hu : X.A.units + 64 < cLine) (ha : PE X a (oD S da)) (hb : PE X b (oD S db)) : PE X (.Compare a [.Eq] [b] pos) (oD S (o2 fEq da db)) := on_cmp (r := rEqA X.K) is_eq (op_eq.or (op_eqD hu)) ha hb (nomark _)
theorem on_ne (hu : X.A.units + 64 < cLine) (ha : PE X a (oD S da)) (hb : PE X b (oD S db)) : PE X (.Compare a [.NotEq] [b] pos) (oD S (o2 fNe da db)) := on_cmp (r := rNeA X.K) is_ne (op_ne.or (op_neD hu)) ha hb (nomark _)
theorem on_lt (ha : PE X a (oD S da)) (hb : PE X b (oD S db)) : PE X (.Compare a [.Lt] [b] pos) (oD S (o2 (fB20 fun i j => decide (i < j)) da db)) := on_cmp is_b20 op_lt ha hb (nomark _)
theorem on_gt (ha : PE X a (oD S da)) (hb : PE X b (oD S db)) : PE X (.Compare a [.Gt] [b] pos) (oD S (o2 (fB20 fun i j => decide (j < i)) da db)) := on_cmp is_b20 op_gt ha hb (nomark _)
theorem on_le (ha : PE X a (oD S da)) (hb : PE X b (oD S db)) : PE X (.Compare a [.LtE] [b] pos) (oD S (o2 (fB20 fun i j => decide (i ≤ j)) da db)) := on_cmp is_b20 op_le ha hb (nomark _)
theorem on_ge (ha : PE X a (oD S da)) (hb : PE X b (oD S db)) : PE X (.Compare a [.GtE] [b] pos) (oD S (o2 (fB20 fun i j => decide (j ≤ i)) da db)) := on_cmp is_b20 op_ge ha hb (nomark _)
end
end
end DN

/-! isinstance with a base type, ** -/
namespace DN
open PySem PySem.Spec PyProof.Rows L2 KG
section
variable {X : Cx} {C : Addr} {S : CS} {pos : Pos}
/-- isinstance(a, T) for a base type -/
def fIsTy (n b i s t l : Bool) : D → Option D
  | .non => some (.bl n)
  | .bl _ => some (.bl b)
  | .int _ => some (.bl i)
  | .str _ => some (.bl s)
  | .tup _ => some (.bl t)
  | .lst _ => some (.bl l)
  | _ => none
theorem dn_isTy {T : String} {n b i s t l : Bool} {a : Expr} {x : Str} {p p2 : Pos} {da : List Sl → Option D} (hk : kitB "NoneType" T = some n ∧ kitB "bool" T = some b ∧ kitB "int" T = some i ∧ kitB "str" T = some s ∧ kitB "tuple" T = some t ∧ kitB "list" T = some l)
    (hg : Gl X "isinstance") (hm : X.mg "isinstance" = none) (hgx : Gl X x) (hmx : X.mg x = none) (hbt : bootBuiltins x = some (.type T)) (ha : PE X a (tD C da)) (hnn : x ≠ "__name__" := by decide) (hdb : (x == ("__debug__" : Str)) = false := by decide)
    (he : starEach [a, .Name x p2] X.env = (false, eval a X.env) :: starEach [.Name x p2] X.env := by rfl) (he2 : starEach [.Name x p2] X.env = (false, eval (.Name x p2) X.env) :: starEach [] X.env := by rfl) (hpl : (backTo pos (starEach [.Name x p2] X.env)).any (·.1) = false := by rfl) :
    PE X (.Call (.Name "isinstance" p) [a, .Name x p2] [] pos) (tD C (d1 (fIsTy n b i s t l) da)) :=
  pe_to (pe_callB call_isi hg hm (by decide +kernel) (pa_cons ha (pa_cons (pe_bltn (v := .ty T) hgx hmx hbt rfl hnn hdb) pa_nil he2) he) (by decide) (by decide) he hpl) fun σ H Q ⟨A, H0, G, ρ, z, en, sm, hd, k⟩ => by
    obtain ⟨k1, k2, k3, k4, k5, k6⟩ := hk
    obtain ⟨d, h1, hd⟩ := obind hd
    refine ⟨A, H0, G, ρ, d, en, sm, h1, fun G1 H1 v x1 r1 => ?_⟩
    have fin : ∀ (t : String) (b : Bool), TyX X.K H1 v (.type t) → kitB t T = some b → z = .bl b → rIsi X.K [v, .ty T] H1 Q := fun t b h1 h2 e => by
      subst e
      exact ⟨v, .ty T, .type t, .type T, b, rfl, .ty T, h1, kit_ty h2, k G1 H1 _ x1 (.bl b)⟩
    cases d with
    | non => cases r1; exact fin _ _ (.base .non) k1 (Option.some.inj hd).symm
    | bl b => cases r1; exact fin _ _ (.base (.bl _)) k2 (Option.some.inj hd).symm
    | int i => cases r1; exact fin _ _ (.base (.int _)) k3 (Option.some.inj hd).symm
    | str i => cases r1; exact fin _ _ (.base (.str _)) k4 (Option.some.inj hd).symm
    | tup ds => cases r1 with | tup e r => exact fin _ _ (.base (.tup (x1.s _ _ e))) k5 (Option.some.inj hd).symm
    | lst ds => cases r1 with | lst e r => exact fin _ _ (.base (.lst (x1.s _ _ e))) k6 (Option.some.inj hd).symm
    | num t e => cases hd
    | ref i => cases hd
abbrev fIsBool := fIsTy false true false false false false
abbrev fIsInt := fIsTy false true true false false false
abbrev fIsStr := fIsTy false false false true false false
theorem dn_isBool {a : Expr} {p p2 : Pos} {da : List Sl → Option D} (hg : Gl X "isinstance") (hm : X.mg "isinstance" = none) (hgx : Gl X "bool") (hmx : X.mg "bool" = none) (ha : PE X a (tD C da))
    (he : starEach [a, .Name "bool" p2] X.env = (false, eval a X.env) :: starEach [.Name "bool" p2] X.env := by rfl) (he2 : starEach [.Name "bool" p2] X.env = (false, eval (.Name "bool" p2) X.env) :: starEach [] X.env := by rfl) (hpl : (backTo pos (starEach [.Name "bool" p2] X.env)).any (·.1) = false := by rfl) :
    PE X (.Call (.Name "isinstance" p) [a, .Name "bool" p2] [] pos) (tD C (d1 fIsBool da)) := dn_isTy (T := "bool") (by decide +kernel) hg hm hgx hmx (by decide +kernel) ha (by decide) (by decide) he he2 hpl
theorem dn_isInt {a : Expr} {p p2 : Pos} {da : List Sl → Option D} (hg : Gl X "isinstance") (hm : X.mg "isinstance" = none) (hgx : Gl X "int") (hmx : X.mg "int" = none) (ha : PE X a (tD C da))
    (he : starEach [a, .Name "int" p2] X.env = (false, eval a X.env) :: starEach [.Name "int" p2] X.env := by rfl) (he2 : starEach [.Name "int" p2] X.env = (false, eval (.Name "int" p2) X.env) :: starEach [] X.env := by rfl) (hpl : (backTo pos (starEach [.Name "int" p2] X.env)).any (·.1) = false := by rfl) :
    PE X (.Call (.Name "isinstance" p) [a, .Name "int" p2] [] pos) (tD C (d1 fIsInt da)) := dn_isTy (T := "int") (by decide +kernel) hg hm hgx hmx (by decide +kernel) ha (by decide) (by decide) he he2 hpl
/-! ** -/
def cPow (a b : Int) : Bool := decide (0 ≤ b) && decide (b ≤ 1000000) && decide (a.natAbs < 2 ^ 64)
theorem cPow_ok (i j : Int) (h : cPow i j = true) : CPow i j := by
  unfold cPow at h
  simp only [Bool.and_eq_true, decide_eq_true_eq] at h
  exact ⟨h.1.1, h.1.2, h.2⟩
abbrev fPow := fI2 cPow (fun i j => i ^ j.toNat)
variable {a b : Expr}
theorem dn_pow {da db : List Sl → Option D} (ha : PE X a (tD C da)) (hb : PE X b (tD C db)) : PE X (.BinOp a .Pow b pos) (tD C (d2 fPow da db)) := dn_op (is_i2 cPow_ok) op_pow ha hb
theorem on_pow {da db : OD D} (ha : PE X a (oD S da)) (hb : PE X b (oD S db)) : PE X (.BinOp a .Pow b pos) (oD S (o2 fPow da db)) := on_op (is_i2 cPow_ok) op_pow ha hb
end
end DN
namespace DN
open PySem PySem.Spec PyProof.Rows L2 KG
section
variable {X : Cx} {S : CS}
def ziSeq (d : SD D) : ZL := fun ρ μ => (d ρ μ).bind fun p => (seqD p.1).bind fun ds => some (ds, p.2)
theorem zi_seq {tg l : Expr} {d : SD D} (hl : PE X l (zD S d)) : PI X tg l (tIZ S (ziSeq d)) :=
  pi_to (pi_or (pi_list hl) (pi_tup hl)) fun σ H R ⟨A, μ, H0, G, ρ, ds, μ', en, W, hd, k⟩ => by
    obtain ⟨⟨a, μ1⟩, h1, hd⟩ := obind hd
    obtain ⟨es, h2, hd⟩ := obind hd
    cases hd
    change seqD a = some ds at h2
    unfold seqD at h2
    split at h2
    · cases h2
      refine .inr ⟨A, μ, H0, G, ρ, _, _, en, W, h1, fun A1 G1 H1 x x1 W1 r1 => ?_⟩
      cases r1 with
      | tup e r => exact ⟨_, rfl, ⟨_, .of (W1.same _ _ e)⟩, k _ A1 G1 H1 x1 W1 (wk_tup e r)⟩
    · cases h2
      refine .inl ⟨A, μ, H0, G, ρ, _, _, en, W, h1, fun A1 G1 H1 x x1 W1 r1 => ?_⟩
      cases r1 with
      | lst e r => exact ⟨_, rfl, ⟨_, .of (W1.same _ _ e)⟩, k _ A1 G1 H1 x1 W1 (wk_list e r)⟩
    · cases h2
end
end DN

set_option maxHeartbeats 1000000
/-! lists of lists that change: laid by a comprehension in a comprehension -/
namespace DN
open PySem PySem.Spec PyProof.Rows L2 KG
/-- a new list that may change -/
def tN (C : Addr) (den : List Sl → Option (List D)) : TE := fun σ H Q => ∃ A H0 G ρ ds, En C A H0 G H σ ρ ∧ Same G H ∧ den ρ = some ds ∧
  ∀ G' H' p vs, Ext G H G' H' → H p = none → G' p = none → H' p = some (.lst vs) → RpAll C A G' vs ds → Q (.ref p) H'
def dLcN (di : List Sl → Option (List D)) (g : D → List Sl → Option (List Sl)) (te : List Sl → Option D) (vs : List Nat) : List Sl → Option (List D) := fun ρ =>
  (di ρ).bind fun ds => if decide (ds.length ≤ szB) then lcD g bYes te (wipeD ρ vs) ds else none
section
variable {C : Addr}
theorem lcN_ok {is vs : List Nat} {di : List Sl → Option (List D)} {g : D → List Sl → Option (List Sl)} {te : List Sl → Option D} (hv : ∀ i ∈ is, i ∈ vs) :
    ∀ σ H Q, tN C (dLcN di g te vs) σ H Q → tLc (tI C di) (tG C is g) (tB C bYes) (tD C te) vs σ H Q := fun σ H Q ⟨A, H0, G, ρ, r, en, sm, hd, k⟩ => by
  obtain ⟨ds, h1, hd⟩ := obind hd
  split at hd
  · rename_i hz
    have h2 := hd
    refine ⟨A, H0, G, ρ, ds, en, sm, h1, fun J G1 H1 x1 wk Dl nD => ?_⟩
    have ng : G1 Dl = none := none_of x1.s nD
    refine ⟨fun i m H2 => m = ds.length - i ∧ i ≤ ds.length ∧ ∃ G2 ys rs rest, Ext G1 H1 G2 H2 ∧ G2 Dl = none ∧ H2 Dl = some (.lst ys) ∧ RpAll C A G2 ys rs ∧ rs.length ≤ i ∧ lcD g bYes te (wipeD ρ vs) (ds.drop i) = some rest ∧ rs ++ rest = r,
      ⟨ds.length, by simp, Nat.zero_le _, G1, [], [], r, .lay x1.s nD _, ng, upd_same, .nil, Nat.le_refl _, h2, rfl⟩, ?_⟩
    rintro i m H2 ⟨rfl, hi, G2, ys, rs, rest, x2, n2, e2, r2, hrs, hl, happ⟩
    obtain ⟨wstop, wgo⟩ := wk i G2 H2 x2.g x2.s
    by_cases lt : i < ds.length
    · have gd : ds[i]? = some ds[i] := List.getElem?_eq_getElem lt
      obtain ⟨go, yl⟩ := wgo _ gd
      rw [List.drop_eq_getElem_cons lt] at hl
      unfold lcD at hl
      obtain ⟨ρ1, g1, hl⟩ := obind hl
      obtain ⟨b, t1, hl⟩ := obind hl
      refine .inr ⟨go, fun H' => ∃ G2 ys rs rest, Ext G1 H1 G2 H' ∧ G2 Dl = none ∧ H' Dl = some (.lst ys) ∧ RpAll C A G2 ys rs ∧ rs.length ≤ i + 1 ∧ lcD g bYes te (wipeD ρ vs) (ds.drop (i + 1)) = some rest ∧ rs ++ rest = r,
        fun H' hN => ⟨ds.length - (i + 1), by omega, rfl, lt, hN⟩, fun x H3 hy => ?_⟩
      obtain ⟨G3, x3, r3⟩ := yl x H3 hy
      have en3 : En C A H0 G3 H3 (wipe σ vs) (wipeD ρ vs) := (((en.ext x1).ext x2).ext x3).wipe vs
      refine ⟨A, H0, G3, _, _, ρ1, en3, x3.s, r3, g1, fun σ4 G4 H4 x4 en4 w4 => ⟨by rw [w4 vs hv, wipe_idem], A, H0, G4, ρ1, b, en4, x4.s, t1, fun G5 H5 v x5 hv5 => ?_⟩⟩
      obtain rfl : v = b := hv5
      have n5 : G5 Dl = none := x5.f _ _ (x4.h _ _ (x3.h _ _ e2)) (x4.f _ _ (x3.h _ _ e2) (x3.f _ _ e2 n2))
      have X5 : Ext G1 H1 G5 H5 := ((x2.trans x3).trans x4).trans x5
      have e5 : H5 Dl = some (.lst ys) := x5.h _ _ (x4.h _ _ (x3.h _ _ e2))
      have r5 : RpAll C A G5 ys rs := (r2.mono x3.g).mono (x4.g.trans x5.g)
      obtain rfl : true = v := Option.some.inj t1
      obtain ⟨y, t2, hl⟩ := obind (show ((te ρ1).bind fun y => (lcD g bYes te (wipeD ρ vs) (ds.drop (i + 1))).bind fun r => some (y :: r)) = some rest by simpa using hl)
      obtain ⟨rest', t3, hl⟩ := obind hl
      cases hl
      rw [if_pos rfl]
      refine ⟨A, H0, G5, ρ1, y, en4.ext x5, x5.s, t2, fun G6 H6 yv x6 r6 => ?_⟩
      have e6 : H6 Dl = some (.lst ys) := x6.h _ _ e5
      have n6 : G6 Dl = none := x6.f _ _ e5 n5
      have X6 := X5.trans x6
      have hlen : ys.length < sizeLine := by
        rw [r5.len]
        have hz' : ds.length ≤ szB := of_decide_eq_true hz
        exact sz_lt (decide_eq_true (show rs.length ≤ szB by omega))
      refine ⟨ys, e6, hlen, G6, ys ++ [yv], rs ++ [y], rest', ⟨X6.g, fun b o q => ?_, fun b o q => ?_, X6.f⟩, n6, upd_same, (r5.mono x6.g).append (.cons r6 .nil), ?_, t3, ?_⟩
      · rw [upd_ne (fun z => by rw [z, n6] at q; cases q)]; exact X6.s _ _ q
      · rw [upd_ne (ne_of_none q nD)]; exact X6.h _ _ q
      · rw [List.length_append, List.length_singleton]; omega
      · rw [List.append_assoc]; exact happ
    · have ei : i = ds.length := by omega
      subst ei
      rw [List.drop_length] at hl
      cases hl
      rw [List.append_nil] at happ
      subst happ
      exact .inl ⟨wstop rfl, k G2 H2 Dl ys (x1.trans x2) (by
        cases q : H Dl with
        | none => rfl
        | some u => rw [x1.h _ _ q] at nD; cases nD) n2 e2 r2⟩
  · cases hd
/-- lists at bs that may change -/
structure Lts (C : Addr) (A : List Addr) (H0 G H : Hp) (bs : List Addr) (dss : List (List D)) : Prop where
  len : bs.length = dss.length
  nd : bs.Nodup
  at_ : ∀ (j : Nat) (b : Addr), bs[j]? = some b → ∃ vs ds, dss[j]? = some ds ∧ H b = some (.lst vs) ∧ RpAll C A G vs ds ∧ G b = none ∧ H0 b = none
theorem Lts.nil {A : List Addr} {H0 G H : Hp} : Lts C A H0 G H [] [] := ⟨rfl, List.nodup_nil, fun j b h => by simp at h⟩
theorem Lts.ext {A : List Addr} {H0 G H G' H' : Hp} {bs : List Addr} {dss : List (List D)} (l : Lts C A H0 G H bs dss) (x : Ext G H G' H') : Lts C A H0 G' H' bs dss :=
  ⟨l.len, l.nd, fun j b h => by
    obtain ⟨vs, ds, h1, h2, h3, h4, h5⟩ := l.at_ j b h
    exact ⟨vs, ds, h1, x.h _ _ h2, h3.mono x.g, x.f _ _ h2 h4, h5⟩⟩
theorem Lts.mem {A : List Addr} {H0 G H : Hp} {bs : List Addr} {dss : List (List D)} (l : Lts C A H0 G H bs dss) {b : Addr} (h : b ∈ bs) : (∃ o, H b = some o) ∧ G b = none ∧ H0 b = none := by
  obtain ⟨j, hj⟩ := List.mem_iff_getElem?.mp h
  obtain ⟨vs, ds, h1, h2, h3, h4, h5⟩ := l.at_ j b hj
  exact ⟨⟨_, h2⟩, h4, h5⟩
/-- another address is written -/
theorem Lts.upd {A : List Addr} {H0 G H : Hp} {bs : List Addr} {dss : List (List D)} (l : Lts C A H0 G H bs dss) {a : Addr} (h : a ∉ bs) (o : HO) : Lts C A H0 G (upd H a o) bs dss :=
  ⟨l.len, l.nd, fun j b hb => by
    obtain ⟨vs, ds, h1, h2, h3, h4, h5⟩ := l.at_ j b hb
    exact ⟨vs, ds, h1, by rw [upd_ne (fun z => by subst z; exact h (List.mem_of_getElem? hb))]; exact h2, h3, h4, h5⟩⟩
theorem Lts.snoc {A : List Addr} {H0 G H : Hp} {bs : List Addr} {dss : List (List D)} (l : Lts C A H0 G H bs dss) {b : Addr} {vs : List V} {ds : List D} (hb : H b = some (.lst vs)) (r : RpAll C A G vs ds) (g : G b = none) (h0 : H0 b = none) (nb : b ∉ bs) : Lts C A H0 G H (bs ++ [b]) (dss ++ [ds]) :=
  ⟨by rw [List.length_append, List.length_append, l.len]; rfl, by
    rw [List.nodup_append]
    exact ⟨l.nd, by simp, fun x hx y hy => by
      rw [List.mem_singleton] at hy
      subst hy
      exact fun z => nb (z ▸ hx)⟩, fun j c hc => by
    by_cases lt : j < bs.length
    · rw [List.getElem?_append_left lt] at hc
      obtain ⟨vs', ds', h1, h2⟩ := l.at_ j c hc
      exact ⟨vs', ds', by rw [List.getElem?_append_left (by rw [← l.len]; exact lt)]; exact h1, h2⟩
    · rw [List.getElem?_append_right (by omega)] at hc
      have e : j - bs.length = 0 := by
        cases q : j - bs.length with
        | zero => rfl
        | succ n => rw [q] at hc; simp at hc
      rw [e] at hc
      simp at hc
      subst hc
      refine ⟨vs, ds, ?_, hb, r, g, h0⟩
      rw [List.getElem?_append_right (by rw [← l.len]; omega), ← l.len, e]
      rfl⟩
/-- a new list of new lists that may change -/
def tN2 (C : Addr) (den : List Sl → Option (List (List D))) : TE := fun σ H Q => ∃ A H0 G ρ dss, En C A H0 G H σ ρ ∧ Same G H ∧ den ρ = some dss ∧
  ∀ G' H' p bs, Ext G H G' H' → H p = none → G' p = none → H' p = some (.lst (bs.map V.ref)) → Lts C A H G' H' bs dss → p ∉ bs → Q (.ref p) H'
def lc2N (g : D → List Sl → Option (List Sl)) (te : List Sl → Option (List D)) (ρ : List Sl) : List D → Option (List (List D))
  | [] => some []
  | d :: ds => (g d ρ).bind fun ρ1 => (te ρ1).bind fun y => (lc2N g te ρ ds).bind fun r => some (y :: r)
def dLcN2 (di : List Sl → Option (List D)) (g : D → List Sl → Option (List Sl)) (te : List Sl → Option (List D)) (vs : List Nat) : List Sl → Option (List (List D)) := fun ρ =>
  (di ρ).bind fun ds => if decide (ds.length ≤ szB) then lc2N g te (wipeD ρ vs) ds else none
theorem lcN2_ok {is vs : List Nat} {di : List Sl → Option (List D)} {g : D → List Sl → Option (List Sl)} {te : List Sl → Option (List D)} {tt : TT} {tn : TE} (htt : ∀ σ H Q, Q true H → tt σ H Q) (htn : ∀ σ H Q, tN C te σ H Q → tn σ H Q) (hv : ∀ i ∈ is, i ∈ vs) :
    ∀ σ H Q, tN2 C (dLcN2 di g te vs) σ H Q → tLc (tI C di) (tG C is g) tt tn vs σ H Q := fun σ H Q ⟨A, H0, G, ρ, r, en, sm, hd, k⟩ => by
  obtain ⟨ds, h1, hd⟩ := obind hd
  split at hd
  · rename_i hz
    have h2 := hd
    refine ⟨A, H0, G, ρ, ds, en, sm, h1, fun J G1 H1 x1 wk Dl nD => ?_⟩
    have ng : G1 Dl = none := none_of x1.s nD
    have nDH : H Dl = none := by
      cases q : H Dl with
      | none => rfl
      | some u => rw [x1.h _ _ q] at nD; cases nD
    refine ⟨fun i m H2 => m = ds.length - i ∧ i ≤ ds.length ∧ ∃ G2 bs rs rest, Ext G1 H1 G2 H2 ∧ G2 Dl = none ∧ H2 Dl = some (.lst (bs.map V.ref)) ∧ Lts C A H G2 H2 bs rs ∧ Dl ∉ bs ∧ rs.length ≤ i ∧ lc2N g te (wipeD ρ vs) (ds.drop i) = some rest ∧ rs ++ rest = r,
      ⟨ds.length, by simp, Nat.zero_le _, G1, [], [], r, .lay x1.s nD _, ng, upd_same, .nil, by simp, Nat.le_refl _, h2, rfl⟩, ?_⟩
    rintro i m H2 ⟨rfl, hi, G2, bs, rs, rest, x2, n2, e2, r2, nb, hrs, hl, happ⟩
    obtain ⟨wstop, wgo⟩ := wk i G2 H2 x2.g x2.s
    by_cases lt : i < ds.length
    · have gd : ds[i]? = some ds[i] := List.getElem?_eq_getElem lt
      obtain ⟨go, yl⟩ := wgo _ gd
      rw [List.drop_eq_getElem_cons lt] at hl
      unfold lc2N at hl
      obtain ⟨ρ1, g1, hl⟩ := obind hl
      obtain ⟨y, t2, hl⟩ := obind hl
      obtain ⟨rest', t3, hl⟩ := obind hl
      cases hl
      refine .inr ⟨go, fun H' => ∃ G2 bs rs rest, Ext G1 H1 G2 H' ∧ G2 Dl = none ∧ H' Dl = some (.lst (bs.map V.ref)) ∧ Lts C A H G2 H' bs rs ∧ Dl ∉ bs ∧ rs.length ≤ i + 1 ∧ lc2N g te (wipeD ρ vs) (ds.drop (i + 1)) = some rest ∧ rs ++ rest = r,
        fun H' hN => ⟨ds.length - (i + 1), by omega, rfl, lt, hN⟩, fun x H3 hy => ?_⟩
      obtain ⟨G3, x3, r3⟩ := yl x H3 hy
      have en3 : En C A H0 G3 H3 (wipe σ vs) (wipeD ρ vs) := (((en.ext x1).ext x2).ext x3).wipe vs
      refine ⟨A, H0, G3, _, _, ρ1, en3, x3.s, r3, g1, fun σ4 G4 H4 x4 en4 w4 => ⟨by rw [w4 vs hv, wipe_idem], htt _ _ _ ?_⟩⟩
      rw [if_pos rfl]
      refine htn _ _ _ ⟨A, H0, G4, ρ1, y, en4, x4.s, t2, fun G6 H6 p us x6 np gp hp r6 => ?_⟩
      have X6 := ((x2.trans x3).trans x4).trans x6
      have x36 := (x3.trans x4).trans x6
      have e6 : H6 Dl = some (.lst (bs.map V.ref)) := x36.h _ _ e2
      have n6 : G6 Dl = none := x36.f _ _ e2 n2
      have hlen : (bs.map V.ref).length < sizeLine := by
        rw [List.length_map, r2.len]
        have hz' : ds.length ≤ szB := of_decide_eq_true hz
        exact sz_lt (decide_eq_true (show rs.length ≤ szB by omega))
      have L6 := r2.ext x36
      have pH : H p = none := by
        cases q : H p with
        | none => rfl
        | some u => rw [(x3.trans x4).h _ _ (x2.h _ _ (x1.h _ _ q))] at np; cases np
      have pb : p ∉ bs := fun z => by
        obtain ⟨⟨o, q⟩, _⟩ := r2.mem z
        rw [(x3.trans x4).h _ _ q] at np; cases np
      have pD : p ≠ Dl := fun z => by
        subst z
        rw [(x3.trans x4).h _ _ e2] at np; cases np
      refine ⟨_, e6, hlen, G6, bs ++ [p], rs ++ [y], rest', ⟨X6.g, fun b o q => ?_, fun b o q => ?_, X6.f⟩, n6, ?_, ?_, ?_, ?_, t3, ?_⟩
      · rw [upd_ne (fun z => by rw [z, n6] at q; cases q)]; exact X6.s _ _ q
      · rw [upd_ne (ne_of_none q nD)]; exact X6.h _ _ q
      · rw [upd_same, List.map_append]; rfl
      · refine (L6.snoc hp r6 gp pH pb).upd ?_ _
        intro z
        rcases List.mem_append.mp z with z | z
        · exact nb z
        · rw [List.mem_singleton] at z; exact pD z.symm
      · intro z
        rcases List.mem_append.mp z with z | z
        · exact nb z
        · rw [List.mem_singleton] at z; exact pD z.symm
      · rw [List.length_append, List.length_singleton]; omega
      · rw [List.append_assoc]; exact happ
    · have ei : i = ds.length := by omega
      subst ei
      rw [List.drop_length] at hl
      cases hl
      rw [List.append_nil] at happ
      subst happ
      exact .inl ⟨wstop rfl, k G2 H2 Dl bs (x1.trans x2) nDH n2 e2 r2 nb⟩
  · cases hd
end
end DN

set_option maxHeartbeats 1000000
/-! the turn of a polynomial by one more root: rows of whole numbers that are changed place by place -/
namespace DN
open PySem PySem.Spec PyProof.Rows L2 KG
def rowsI : List D → Option (List (List Int))
  | [] => some []
  | .lst ds :: r => (intL ds).bind fun x => (rowsI r).bind fun xs => some (x :: xs)
  | _ :: _ => none
def partsI (ct : List D → Option D) (other rad : D) : List D → Option (List (List Int))
  | [] => some []
  | d :: r => (ct [d, other, rad]).bind fun y => match y with
    | .lst ds => (intL ds).bind fun x => (partsI ct other rad r).bind fun xs => some (x :: xs)
    | _ => none
def at2 (R : List (List Int)) (j k : Nat) : Int := (R.getD j []).getD k 0
/-- what stands there when the turns before i, and of turn i those before k, are done -/
def prog (R P : List (List Int)) (i k j l : Nat) : Int := (if 1 ≤ j ∧ (j - 1 < i ∨ (j - 1 = i ∧ l < k)) then at2 R (j - 1) l else 0) - (if j < i ∨ (j = i ∧ l < k) then at2 P j l else 0)
def lgI (n m : Nat) (R P : List (List Int)) : List D := (List.range (m + 1)).map fun j => .lst ((List.range n).map fun l => .int (prog R P m 0 j l))
def notOwn : Sl → Bool
  | .own _ => false
  | _ => true
def leastRows (ct : List D → Option D) (n : Nat) (other rad : D) (rws : List D) : Option D := (rowsI rws).bind fun R => (partsI ct other rad rws).bind fun P =>
  if decide (n ≤ 1000) && decide (rws.length ≤ 1000) && R.all (fun x => decide (x.length = n)) && P.all (fun x => decide (x.length = n)) then some (.lst (lgI n rws.length R P)) else none
def lstO : D → Option (List D)
  | .lst ds => some ds
  | _ => none
def leastBody (ct : List D → Option D) : List Sl → Option Out := fun ρ => if ρ.all notOwn && ρ.length == 12 then (dV 0 ρ).bind fun v => (lstO v).bind fun vs => (dV 2 ρ).bind fun rad => (dV 3 ρ).bind fun rw => (lstO rw).bind fun rws => (dV 4 ρ).bind fun other =>
  (leastRows ct vs.length other rad rws).bind fun L => some (.nx (((((ρ.set 3 (.val L)).set 5 (.val L)).set 6 .off).set 7 .off).set 8 .off)) else none
theorem prog_start (R P : List (List Int)) (j l : Nat) : prog R P 0 0 j l = 0 := by
  unfold prog
  rw [if_neg (by omega), if_neg (by omega)]
  rfl
theorem prog_turn (R P : List (List Int)) (n i j l : Nat) (h : l < n) : prog R P i n j l = prog R P (i + 1) 0 j l := by
  unfold prog
  have e1 : (1 ≤ j ∧ (j - 1 < i ∨ (j - 1 = i ∧ l < n))) ↔ (1 ≤ j ∧ (j - 1 < i + 1 ∨ (j - 1 = i + 1 ∧ l < 0))) := by omega
  have e2 : (j < i ∨ (j = i ∧ l < n)) ↔ (j < i + 1 ∨ (j = i + 1 ∧ l < 0)) := by omega
  simp only [e1, e2]
theorem prog_step (R P : List (List Int)) (i k j l : Nat) : prog R P i (k + 1) j l = if j = i + 1 ∧ l = k then prog R P i k (i + 1) k + at2 R i k else if j = i ∧ l = k then prog R P i k i k - at2 P i k else prog R P i k j l := by
  unfold prog
  by_cases h1 : j = i + 1 ∧ l = k
  · obtain ⟨rfl, rfl⟩ := h1
    rw [if_pos (show i + 1 = i + 1 ∧ l = l from ⟨rfl, rfl⟩), if_pos (show 1 ≤ i + 1 ∧ (i + 1 - 1 < i ∨ i + 1 - 1 = i ∧ l < l + 1) by omega), if_neg (show ¬(i + 1 < i ∨ i + 1 = i ∧ l < l + 1) by omega), if_neg (show ¬(1 ≤ i + 1 ∧ (i + 1 - 1 < i ∨ i + 1 - 1 = i ∧ l < l)) by omega), if_neg (show ¬(i + 1 < i ∨ i + 1 = i ∧ l < l) by omega)]
    simp
  · rw [if_neg h1]
    by_cases h2 : j = i ∧ l = k
    · obtain ⟨rfl, rfl⟩ := h2
      rw [if_pos (show j = j ∧ l = l from ⟨rfl, rfl⟩), if_pos (show j < j ∨ j = j ∧ l < l + 1 by omega), if_neg (show ¬(j < j ∨ j = j ∧ l < l) by omega)]
      have e1 : (1 ≤ j ∧ (j - 1 < j ∨ (j - 1 = j ∧ l < l + 1))) ↔ (1 ≤ j ∧ (j - 1 < j ∨ (j - 1 = j ∧ l < l))) := by omega
      simp only [e1]
      omega
    · rw [if_neg h2]
      have e1 : (1 ≤ j ∧ (j - 1 < i ∨ (j - 1 = i ∧ l < k + 1))) ↔ (1 ≤ j ∧ (j - 1 < i ∨ (j - 1 = i ∧ l < k))) := by omega
      have e2 : (j < i ∨ (j = i ∧ l < k + 1)) ↔ (j < i ∨ (j = i ∧ l < k)) := by omega
      simp only [e1, e2]
theorem map_range_set {α : Type} (n k : Nat) (g : Nat → α) (v : α) : ((List.range n).map g).set k v = (List.range n).map fun l => if l = k then v else g l := by
  apply List.ext_getElem?
  intro i
  by_cases e : i = k
  · subst e
    by_cases h : i < n
    · rw [List.getElem?_set_self (by simpa using h)]
      simp [h]
    · rw [List.getElem?_eq_none (by simp; omega), List.getElem?_eq_none (by simp; omega)]
  · rw [List.getElem?_set_ne (Ne.symm e)]
    by_cases h : i < n
    · simp [h, e]
    · rw [List.getElem?_eq_none (by simp; omega), List.getElem?_eq_none (by simp; omega)]
theorem rowsI_len : ∀ {l : List D} {R : List (List Int)}, rowsI l = some R → R.length = l.length
  | [], R, h => by cases h; rfl
  | .lst ds :: r, R, h => by
    obtain ⟨x, h1, h⟩ := obind h
    obtain ⟨xs, h2, h⟩ := obind h
    cases h
    rw [List.length_cons, List.length_cons, rowsI_len h2]
  | .non :: _, _, h => by cases h
  | .bl _ :: _, _, h => by cases h
  | .int _ :: _, _, h => by cases h
  | .str _ :: _, _, h => by cases h
  | .tup _ :: _, _, h => by cases h
  | .num _ _ :: _, _, h => by cases h
  | .ref _ :: _, _, h => by cases h
theorem rowsI_get : ∀ {l : List D} {R : List (List Int)} {i : Nat} {d : D}, rowsI l = some R → l[i]? = some d → ∃ ds x, d = .lst ds ∧ intL ds = some x ∧ R[i]? = some x
  | [], _, _, _, _, e => by simp at e
  | c :: r, R, i, d, h, e => by
    cases c with
    | lst ds =>
      obtain ⟨x, h1, h⟩ := obind h
      obtain ⟨xs, h2, h⟩ := obind h
      cases h
      cases i with
      | zero =>
        simp at e
        subst e
        exact ⟨ds, x, rfl, h1, rfl⟩
      | succ i =>
        obtain ⟨es, y, e1, e2, e3⟩ := rowsI_get (i := i) h2 (by simpa using e)
        exact ⟨es, y, e1, e2, by simpa using e3⟩
    | _ => cases h
theorem partsI_get {ct : List D → Option D} {other rad : D} : ∀ {l : List D} {P : List (List Int)} {i : Nat} {d : D}, partsI ct other rad l = some P → l[i]? = some d → ∃ ds x, ct [d, other, rad] = some (.lst ds) ∧ intL ds = some x ∧ P[i]? = some x
  | [], _, _, _, _, e => by simp at e
  | c :: r, P, i, d, h, e => by
    obtain ⟨y, h0, h⟩ := obind h
    cases y with
    | lst ds =>
      obtain ⟨x, h1, h⟩ := obind h
      obtain ⟨xs, h2, h⟩ := obind h
      cases h
      cases i with
      | zero =>
        simp at e
        subst e
        exact ⟨ds, x, h0, h1, rfl⟩
      | succ i =>
        obtain ⟨es, y, e1, e2, e3⟩ := partsI_get (i := i) h2 (by simpa using e)
        exact ⟨es, y, e1, e2, by simpa using e3⟩
    | _ => cases h
theorem rp_ints {C : Addr} {A : List Addr} {G : Hp} : ∀ (x : List Int), RpAll C A G (x.map V.int) (x.map D.int)
  | [] => .nil
  | i :: x => .cons (.int i) (rp_ints x)
end DN

set_option maxHeartbeats 1000000
namespace DN
open PySem PySem.Spec PyProof.Rows L2 KG
abbrev rLenK (K : PySem.W.Frag) : List V → Hp → VK → Prop := fun xs H Q => ∃ p ys, xs = [.ref p] ∧ (SqL K H p ys ∨ SqT K H p ys) ∧ Q (.int ys.length) H
abbrev rSubI : R2 := rI0 fun i j => .int (i - j)
abbrev rAddI : R2 := rI0 fun i j => .int (i + j)
abbrev tZer (C : Addr) : TE := tLc (tI C (iSeq (dV 0))) (tG C [8] (gN 8)) (tB C bYes) (tD C (dK (.int 0))) [8]
def rawLeast (C : Addr) (K : PySem.W.Frag) (ct : List D → Option D) (X0 : XK) : TS :=
  tSeq (tAsg (tOp rCat (tLc (tI C (iSeq (dV 3))) (tG C [11] (gN 11)) tYes (tZer C) [11]) (tLst (tCons (tZer C) tNil))) (gName 5))
  (tSeq (tFor (iRng1 (tCons (tCB (rLenK K) (tCons (tVar 3) tNil)) tNil)) (gName 6)
    (tSeq (tAsg (tCall (SpD C ct) [] X0 (tCons (tOp (rIxL K) (tVar 3) (tVar 6)) (tCons (tVar 4) (tCons (tVar 2) tNil)))) (gName 7))
    (tFor (iRng1 (tCons (tCB (rLenK K) (tCons (tVar 0) tNil)) tNil)) (gName 8)
      (tSeq (tAsg (tOp rSubI (tOp (rIx K) (tOp (rIxL K) (tVar 5) (tVar 6)) (tVar 8)) (tOp (rIx K) (tVar 7) (tVar 8))) (gSub (tOp (rIxL K) (tVar 5) (tVar 6)) (tVar 8) rSetL))
      (tAsg (tOp rAddI (tOp (rIx K) (tOp (rIxL K) (tVar 5) (tOp rAddI (tVar 6) (tC (.int 1)))) (tVar 8)) (tOp (rIx K) (tOp (rIxL K) (tVar 3) (tVar 6)) (tVar 8))) (gSub (tOp (rIxL K) (tVar 5) (tOp rAddI (tVar 6) (tC (.int 1)))) (tVar 8) rSetL))))))
  (tAsg (tVar 5) (gName 3)))
def rowV (n : Nat) (f : Nat → Int) : List V := (List.range n).map fun l => V.int (f l)
theorem rowV_len (n : Nat) (f : Nat → Int) : (rowV n f).length = n := by simp [rowV]
theorem rowV_get {n k : Nat} (f : Nat → Int) (h : k < n) : (rowV n f)[k]? = some (.int (f k)) := by simp [rowV, h]
theorem atI0 {α : Type} {xs : List α} {j : Nat} {v : α} (h : xs[j]? = some v) : atI xs (0 + (j : Int)) = some v := by
  rw [Int.zero_add]; exact atI_nat h
theorem atI1 {α : Type} {xs : List α} {j : Nat} {v : α} (h : xs[j + 1]? = some v) : atI xs (0 + (j : Int) + 1) = some v := by
  rw [Int.zero_add]; exact atI_nat (j := j + 1) h
theorem ixN0 {n k : Nat} (h : k < n) : ixN n (0 + (k : Int)) = some k := by
  unfold ixN
  rw [if_pos (by omega), if_pos (by omega)]
  congr 1
  omega
theorem ints_row {x : List Int} {n : Nat} (h : x.length = n) : x.map V.int = rowV n fun l => x.getD l 0 := by
  apply List.ext_getElem?
  intro i
  by_cases e : i < n
  · rw [rowV_get _ e, List.getElem?_map, List.getD_eq_getElem?_getD, List.getElem?_eq_getElem (by omega)]
    simp
  · rw [List.getElem?_eq_none (by simp; omega), List.getElem?_eq_none (by rw [rowV_len]; omega)]
theorem at2_of {R : List (List Int)} {i : Nat} {x : List Int} (h : R[i]? = some x) (l : Nat) : at2 R i l = x.getD l 0 := by
  unfold at2
  simp [h]
section
variable {C : Addr} {A : List Addr} {H0 G H : Hp}
theorem En.no {σ : L2.St} {ρ : List Sl} (en : En C A H0 G H σ ρ) (hno : ρ.all notOwn = true) {i : Nat} {ds : List D} : ρ[i]? ≠ some (.own ds) := fun h => by
  have := List.all_eq_true.mp hno _ (List.mem_of_getElem? h)
  cases this
/-- without lists of one's own the heap may go on otherwise -/
theorem En.heap {σ : L2.St} {ρ : List Sl} {G' H' : Hp} (en : En C A H0 G H σ ρ) (hno : ρ.all notOwn = true) (sg : Same G G') (hc : ∀ a ∈ A, (∃ o, H' a = some o) ∧ G' a = none) : En C A H0 G' H' σ ρ :=
  ⟨en.len, fun i d h => by
    obtain ⟨v, h1, h2⟩ := en.val i d h
    exact ⟨v, h1, h2.mono sg⟩, fun i ds h => absurd h (en.no hno), fun i j di dj a h => absurd h (en.no hno), hc⟩
theorem En.setOff {σ : L2.St} {ρ : List Sl} (en : En C A H0 G H σ ρ) (hno : ρ.all notOwn = true) {i : Nat} (h : ∀ d, ρ[i]? ≠ some (.val d)) (x : Option V) : En C A H0 G H (σ.set i x) ρ :=
  ⟨by rw [List.length_set, en.len], fun j d hj => by
    obtain ⟨v, h1, h2⟩ := en.val j d hj
    have ne : j ≠ i := fun z => by subst z; exact h d hj
    exact ⟨v, by rw [List.getElem?_set_ne (Ne.symm ne)]; exact h1, h2⟩, fun i ds h => absurd h (en.no hno), fun i j di dj a h => absurd h (en.no hno), en.cel⟩
theorem lcD_zeros {n : Nat} {ρ : List Sl} : ∀ {ds : List D}, ds.length = n → lcD (gN 8) bYes (dK (.int 0)) ρ ds = some (List.replicate n (.int 0)) := by
  intro ds
  induction ds generalizing n with
  | nil => intro h; subst h; rfl
  | cons d ds ih =>
    intro h
    subst h
    unfold lcD
    show ((lcD (gN 8) bYes (dK (.int 0)) ρ ds).bind fun r => some (D.int 0 :: r)) = _
    rw [ih rfl]
    rfl
theorem lc2N_zeros {n m : Nat} {ρ : List Sl} {vs : List D} (h0 : ∀ d, dV 0 (ρ.set 11 (.val d)) = some (.lst vs)) (hn : vs.length = n) (hz : n ≤ szB) : ∀ {ds : List D}, ds.length = m → lc2N (gN 11) (dLcN (iSeq (dV 0)) (gN 8) (dK (.int 0)) [8]) ρ ds = some (List.replicate m (List.replicate n (.int 0))) := by
  intro ds
  induction ds generalizing m with
  | nil => intro h; subst h; rfl
  | cons d ds ih =>
    intro h
    subst h
    unfold lc2N
    have e : dLcN (iSeq (dV 0)) (gN 8) (dK (.int 0)) [8] (ρ.set 11 (.val d)) = some (List.replicate n (.int 0)) := by
      unfold dLcN iSeq
      rw [h0 d]
      show (if decide (vs.length ≤ szB) = true then lcD (gN 8) bYes (dK (.int 0)) _ vs else none) = _
      rw [if_pos (decide_eq_true (by omega))]
      exact lcD_zeros hn
    show ((dLcN (iSeq (dV 0)) (gN 8) (dK (.int 0)) [8] (ρ.set 11 (.val d))).bind fun y => (lc2N (gN 11) (dLcN (iSeq (dV 0)) (gN 8) (dK (.int 0)) [8]) ρ ds).bind fun r => some (y :: r)) = _
    rw [e, ih rfl]
    rfl
/-- the turn's state: the slots that stay, the list a of the lists bs, turn i done up to place k -/
structure LeS (C : Addr) (A : List Addr) (G0 H0 Gs : Hp) (ρ : List Sl) (a : Addr) (bs : List Addr) (n : Nat) (R P : List (List Int)) (i k : Nat) (G H : Hp) (σ : L2.St) : Prop where
  sg : Same Gs G
  x : Ext G0 H0 G H
  en : En C A H0 G H σ ρ
  s5 : σ[5]? = some (some (.ref a))
  ha : H a = some (.lst (bs.map V.ref))
  ga : G a = none
  hb : ∀ (j : Nat) (b : Addr), bs[j]? = some b → H b = some (.lst (rowV n (prog R P i k j))) ∧ G b = none
structure LeF (A : List Addr) (H0 : Hp) (a : Addr) (bs : List Addr) : Prop where
  nd : bs.Nodup
  na : a ∉ bs
  a0 : H0 a = none
  b0 : ∀ b ∈ bs, H0 b = none
  aA : a ∉ A
  bA : ∀ b ∈ bs, b ∉ A
theorem LeS.put {G0 Gs : Hp} {ρ : List Sl} {σ : L2.St} {a : Addr} {bs : List Addr} {n i k : Nat} {R P : List (List Int)} (s : LeS C A G0 H0 Gs ρ a bs n R P i k G H σ) (hno : ρ.all notOwn = true) (F : LeF A H0 a bs) {b : Addr} (hb : b ∈ bs) (o : HO) :
    Ext G0 H0 G (upd H b o) ∧ En C A H0 G (upd H b o) σ ρ ∧ (upd H b o) a = some (.lst (bs.map V.ref)) := by
  obtain ⟨j, hj⟩ := List.mem_iff_getElem?.mp hb
  have gb := (s.hb j b hj).2
  refine ⟨⟨s.x.g, fun c u q => ?_, fun c u q => ?_, s.x.f⟩, s.en.heap hno (fun _ _ h => h) fun c hc => ?_, ?_⟩
  · rw [upd_ne (fun z => by rw [z, gb] at q; cases q)]; exact s.x.s _ _ q
  · rw [upd_ne (fun z => by rw [z, F.b0 b hb] at q; cases q)]; exact s.x.h _ _ q
  · obtain ⟨⟨u, h1⟩, h2⟩ := s.en.cel c hc
    exact ⟨⟨u, by rw [upd_ne (fun z => by subst z; exact F.bA c hb hc)]; exact h1⟩, h2⟩
  · rw [upd_ne (fun z => by subst z; exact F.na hb)]; exact s.ha
end
end DN

set_option maxHeartbeats 2000000
namespace DN
open PySem PySem.Spec PyProof.Rows L2 KG
section
variable {C : Addr} {K : PySem.W.Frag}
theorem least_ok {ct : List D → Option D} {X0 : XK} : ∀ E σ H, tS C (leastBody ct) E σ H → rawLeast C K ct X0 E σ H := fun E σ H ⟨A, G0, H0, G, ρ, o, x0, en, hd, fin⟩ => by
  unfold leastBody at hd
  split at hd
  case isFalse => cases hd
  rename_i hc
  rw [Bool.and_eq_true] at hc
  obtain ⟨hno, hl⟩ := hc
  have hl : ρ.length = 12 := beq_iff_eq.mp hl
  obtain ⟨dv0, q0, hd1⟩ := obind hd
  obtain ⟨vs, q0', hd2⟩ := obind hd1
  obtain ⟨rad, q2, hd3⟩ := obind hd2
  obtain ⟨drw, q3, hd4⟩ := obind hd3
  obtain ⟨rws, q3', hd5⟩ := obind hd4
  obtain ⟨oth, q4, hd6⟩ := obind hd5
  obtain ⟨L, hL, hd7⟩ := obind hd6
  clear hd hd1 hd2 hd3 hd4 hd5 hd6
  have lsO : ∀ {d : D} {l : List D}, lstO d = some l → d = .lst l := fun {d l} h => by
    cases d with
    | lst ds => cases h; rfl
    | _ => cases h
  obtain rfl := lsO q0'
  obtain rfl := lsO q3'
  cases hd7
  unfold leastRows at hL
  obtain ⟨R, hR, hL⟩ := obind hL
  obtain ⟨P, hP, hL⟩ := obind hL
  split at hL
  case isFalse => cases hL
  rename_i hz
  cases hL
  simp only [Bool.and_eq_true, decide_eq_true_eq] at hz
  obtain ⟨⟨⟨hn, hm⟩, hRn⟩, hPn⟩ := hz
  generalize hnn : vs.length = n at *
  generalize hmm : rws.length = m at *
  have dV_of : ∀ {i : Nat} {d : D}, dV i ρ = some d → ρ[i]? = some (.val d) := fun {i d} h => by
    unfold dV at h
    split at h
    · rename_i e; cases h; exact e
    · cases h
  have r0 := dV_of q0
  have r2 := dV_of q2
  have r3 := dV_of q3
  have r4 := dV_of q4
  have hz : n ≤ szB := by unfold szB; omega
  have hzm : m ≤ szB := by unfold szB; omega
  have z2 : dLcN (iSeq (dV 0)) (gN 8) (dK (.int 0)) [8] ρ = some (List.replicate n (.int 0)) := by
    unfold dLcN iSeq
    rw [q0]
    show (if decide (vs.length ≤ szB) = true then lcD (gN 8) bYes (dK (.int 0)) _ vs else none) = _
    rw [if_pos (decide_eq_true (by omega))]
    exact lcD_zeros hnn
  have z1 : dLcN2 (iSeq (dV 3)) (gN 11) (dLcN (iSeq (dV 0)) (gN 8) (dK (.int 0)) [8]) [11] ρ = some (List.replicate m (List.replicate n (.int 0))) := by
    unfold dLcN2 iSeq
    rw [q3]
    show (if decide (rws.length ≤ szB) = true then lc2N (gN 11) (dLcN (iSeq (dV 0)) (gN 8) (dK (.int 0)) [8]) ((wipeD ρ [11])) rws else none) = _
    rw [if_pos (decide_eq_true (by omega))]
    refine lc2N_zeros (vs := vs) (fun d => ?_) hnn hz hmm
    show dV 0 ((ρ.set 11 .off).set 11 (.val d)) = _
    unfold dV
    rw [List.getElem?_set_ne (by decide), List.getElem?_set_ne (by decide), r0]
  -- the new lists
  unfold rawLeast
  rw [tSeq, tAsg, tOp]
  show tLc (tI C (iSeq (dV 3))) (tG C [11] (gN 11)) tYes (tZer C) [11] σ H (fun x H1 => (tZer C) σ H1 fun z H2 => [z].length ≤ sizeLine ∧ ∀ p, H2 p = none → rCat x (.ref p) (upd H2 p (.lst [z])) _)
  refine lcN2_ok (tt := tYes) (tn := tZer C) (is := [11]) (fun _ _ _ h => h) (fun σ H Q h => lcN_ok (is := [8]) (vs := [8]) (fun i h => h) σ H Q h) (fun i h => h) σ H _ ⟨A, H0, G, ρ, _, en, x0.s, z1, fun G1 H1 p1 bs1 x1 np1 gp1 hp1 l1 nb1 => ?_⟩
  refine lcN_ok (is := [8]) (vs := [8]) (fun i h => h) σ H1 _ ⟨A, H0, G1, ρ, _, en.ext x1, x1.s, z2, fun G2 H2 p2 vs2 x2 np2 gp2 hp2 rr2 => ⟨by rw [List.length_singleton, sizeLine_eq]; decide, fun p3 np3 => ?_⟩⟩
  have l2 := l1.ext x2
  have h3 : ∀ {b : Addr}, H2 b ≠ none → b ≠ p3 := fun {b} h z => h (z ▸ np3)
  refine ⟨p1, p3, bs1.map V.ref, [.ref p2], rfl, rfl, ?_, upd_same, ?_, fun a na => ?_⟩
  · rw [upd_ne (h3 (by rw [x2.h _ _ hp1]; simp))]; exact x2.h _ _ hp1
  · rw [List.length_map, l1.len, List.length_replicate, List.length_singleton, sizeLine_eq]; omega
  have hp2H : H p2 = none := by
    cases q : H p2 with
    | none => rfl
    | some u => rw [x1.h _ _ q] at np2; cases np2
  have p2b : p2 ∉ bs1 := fun z => by
    obtain ⟨⟨o, q⟩, _⟩ := l1.mem z
    rw [q] at np2; cases np2
  have l3 := l2.snoc hp2 rr2 gp2 hp2H p2b
  have na2 : H2 a = none := by
    by_cases z : a = p3
    · rw [z]; exact np3
    · rw [upd_ne z] at na; exact na
  have p3b : p3 ∉ bs1 ++ [p2] := fun z => by
    obtain ⟨⟨o, q⟩, _⟩ := l3.mem z
    rw [np3] at q; cases q
  have ab : a ∉ bs1 ++ [p2] := fun z => by
    obtain ⟨⟨o, q⟩, _⟩ := l3.mem z
    rw [na2] at q; cases q
  have l4 := (l3.upd p3b (.lst [.ref p2])).upd ab (.lst (bs1.map V.ref ++ [.ref p2]))
  generalize hbs : bs1 ++ [p2] = bs at *
  have eL : bs1.map V.ref ++ [.ref p2] = bs.map V.ref := by rw [← hbs, List.map_append]; rfl
  rw [eL] at l4
  rw [eL]
  have eZ : List.replicate m (List.replicate n (D.int 0)) ++ [List.replicate n (D.int 0)] = List.replicate (m + 1) (List.replicate n (D.int 0)) := by rw [List.replicate_succ']
  rw [eZ] at l4
  have lenb : bs.length = m + 1 := by rw [l4.len, List.length_replicate]
  have X2 := (x0.trans x1).trans x2
  have ga : G2 a = none := none_of X2.s na2
  have g3 : G2 p3 = none := none_of X2.s np3
  have X4 : Ext G0 H0 G2 (upd (upd H2 p3 (.lst [.ref p2])) a (.lst (bs.map V.ref))) := ⟨X2.g, fun b o q => by
    rw [upd_ne (fun z => by rw [z, ga] at q; cases q), upd_ne (fun z => by rw [z, g3] at q; cases q)]; exact X2.s _ _ q, fun b o q => by
    rw [upd_ne (fun z => by rw [z] at q; rw [X2.h _ _ q] at na2; cases na2), upd_ne (fun z => by rw [z] at q; rw [X2.h _ _ q] at np3; cases np3)]; exact X2.h _ _ q, X2.f⟩
  have F : LeF A H0 a bs := by
    refine ⟨l4.nd, ab, ?_, fun b hb => ?_, fun z => ?_, fun b hb z => ?_⟩
    · cases q : H0 a with
      | none => rfl
      | some u => rw [X2.h _ _ q] at na2; cases na2
    · cases q : H0 b with
      | none => rfl
      | some u =>
        have := (l4.mem hb).2.2
        rw [x0.h _ _ q] at this; cases this
    · obtain ⟨⟨o, q⟩, _⟩ := (en.ext (x1.trans x2)).cel a z
      rw [na2] at q; cases q
    · obtain ⟨⟨o, q⟩, _⟩ := en.cel b z
      rw [(l4.mem hb).2.2] at q; cases q
  -- the slots that stay
  generalize hρ : (((ρ.set 5 .off).set 6 .off).set 7 .off).set 8 .off = ρ1 at *
  have hno1 : ρ1.all notOwn = true := by
    rw [← hρ]
    refine List.all_eq_true.mpr fun x hx => ?_
    have : ∀ {l : List Sl} {i : Nat}, (∀ x ∈ l, notOwn x = true) → ∀ x ∈ l.set i .off, notOwn x = true := fun {l i} h x hx => by
      rcases List.mem_or_eq_of_mem_set hx with h1 | h1
      · exact h x h1
      · subst h1; rfl
    exact this (this (this (this (List.all_eq_true.mp hno)))) x hx
  have off1 : ∀ i, 5 ≤ i → i ≤ 8 → ∀ d, ρ1[i]? ≠ some (.val d) := fun i h5 h8 d h => by
    rw [← hρ] at h
    simp only [List.getElem?_set, List.length_set, hl] at h
    have : i = 5 ∨ i = 6 ∨ i = 7 ∨ i = 8 := by omega
    rcases this with rfl | rfl | rfl | rfl <;> simp at h
  have on1 : ∀ i, i < 5 → ρ1[i]? = ρ[i]? := fun i h => by
    rw [← hρ]
    rw [List.getElem?_set_ne (by omega), List.getElem?_set_ne (by omega), List.getElem?_set_ne (by omega), List.getElem?_set_ne (by omega)]
  have en1 : En C A H0 G2 (upd (upd H2 p3 (.lst [.ref p2])) a (.lst (bs.map V.ref))) (σ.set 5 (some (.ref a))) ρ1 := by
    have e2 := en.ext (x1.trans x2)
    refine ⟨by rw [List.length_set, e2.len, ← hρ]; simp, fun i d h => ?_, fun i ds h => ?_, fun i j di dj c h => ?_, fun c hc => ?_⟩
    · have hi : ¬ (5 ≤ i ∧ i ≤ 8) := fun z => off1 i z.1 z.2 d h
      have hr : ρ[i]? = some (.val d) := by
        rw [← hρ] at h
        rw [List.getElem?_set_ne (by omega), List.getElem?_set_ne (by omega), List.getElem?_set_ne (by omega), List.getElem?_set_ne (by omega)] at h
        exact h
      obtain ⟨v, h1, h2⟩ := e2.val i d hr
      exact ⟨v, by rw [List.getElem?_set_ne (by omega)]; exact h1, h2⟩
    · have := List.all_eq_true.mp hno1 _ (List.mem_of_getElem? h)
      cases this
    · have := List.all_eq_true.mp hno1 _ (List.mem_of_getElem? h)
      cases this
    · obtain ⟨⟨u, h1⟩, h2⟩ := e2.cel c hc
      refine ⟨⟨u, ?_⟩, h2⟩
      rw [upd_ne (fun z => by subst z; exact F.aA hc), upd_ne (fun z => by rw [z, np3] at h1; cases h1)]
      exact h1
  have S0 : LeS C A G0 H0 G ρ1 a bs n R P 0 0 G2 (upd (upd H2 p3 (.lst [.ref p2])) a (.lst (bs.map V.ref))) (σ.set 5 (some (.ref a))) := by
    refine ⟨x1.g.trans x2.g, X4, en1, List.getElem?_set_self (by rw [en.len, hl]; decide), upd_same, ga, fun j b hb => ?_⟩
    obtain ⟨us, ds, h1, h2, h3', h4, _⟩ := l4.at_ j b hb
    refine ⟨?_, h4⟩
    rw [h2]
    have hj : j < m + 1 := by rw [← lenb]; exact (List.getElem?_eq_some_iff.mp hb).1
    rw [List.getElem?_replicate, if_pos hj] at h1
    cases h1
    have e : us = rowV n (prog R P 0 0 j) := by
      have hz0 : ∀ {k : Nat} {us : List V}, RpAll C A G2 us (List.replicate k (D.int 0)) → us = List.replicate k (V.int 0) := fun {k} => by
        induction k with
        | zero => intro us r; cases r; rfl
        | succ k ih =>
          intro us r
          rw [List.replicate_succ] at r
          cases r with
          | cons r1 r2 => cases r1; rw [ih r2]; rfl
      rw [hz0 h3']
      apply List.ext_getElem?
      intro l
      by_cases hh : l < n
      · rw [rowV_get _ hh, prog_start]; simp [hh]
      · rw [List.getElem?_eq_none (by simp; omega), List.getElem?_eq_none (by rw [rowV_len]; omega)]
    rw [e]
  have Rlen := rowsI_len hR
  clear l4 l3 l2 l1
  generalize upd (upd H2 p3 (.lst [.ref p2])) a (.lst (bs.map V.ref)) = Hs at *
  show tSeq _ _ E (σ.set 5 (some (.ref a))) Hs
  generalize σ.set 5 (some (.ref a)) = σs at *
  have lenσ : ∀ {i k : Nat} {G H : Hp} {σ : L2.St}, LeS C A G0 H0 G ρ1 a bs n R P i k G H σ → True := fun _ => trivial
  have hrl : ρ1.length = 12 := by rw [← hρ]; simp [hl]
  have slot : ∀ {Gc Hc : Hp} {σc : L2.St} {i : Nat} {d : D}, En C A H0 Gc Hc σc ρ1 → i < 5 → ρ[i]? = some (.val d) → ∃ v, σc[i]? = some (some v) ∧ Rp C A Gc v d := fun e hi hr => e.val _ _ (by rw [on1 _ hi]; exact hr)
  have bget : ∀ {j : Nat}, j < m + 1 → ∃ b, bs[j]? = some b ∧ b ∈ bs := fun {j} h => by
    have h' : j < bs.length := by omega
    exact ⟨bs[j], List.getElem?_eq_getElem h', List.getElem_mem h'⟩
  have bmap : ∀ {j : Nat} {b : Addr}, bs[j]? = some b → (bs.map V.ref)[j]? = some (.ref b) := fun {j b} h => by rw [List.getElem?_map, h]; rfl
  show ∃ v, σs[3]? = some (some v) ∧ _
  obtain ⟨w3, s3, rp3⟩ := slot S0.en (by decide) r3
  cases rp3 with
  | lst g3 ra3 =>
  rename_i q3a us3
  have us3l : us3.length = m := by rw [ra3.len]; exact hmm
  refine ⟨_, s3, q3a, us3, rfl, .inl (.of (S0.x.s _ _ g3)), (us3.length : Int), rfl, by omega, by omega, ?_⟩
  rw [show ((us3.length : Int)).toNat = m by omega]
  refine for_range (lo := 0) (n := m) (fun i σ' H' => ∃ G', LeS C A G0 H0 G ρ1 a bs n R P i 0 G' H' σ') ⟨G2, S0⟩ ?turn ?done
  case turn =>
    intro i σ' Hc hi ⟨Gc, S⟩
    show tSeq _ _ _ (σ'.set 6 (some (.int (0 + (i : Int))))) Hc
    have lσ : σ'.length = 12 := by rw [S.en.len, hrl]
    have e6 : (σ'.set 6 (some (.int (0 + (i : Int)))))[6]? = some (some (.int (0 + (i : Int)))) := List.getElem?_set_self (by omega)
    have en6 : En C A H0 Gc Hc (σ'.set 6 (some (.int (0 + (i : Int))))) ρ1 := S.en.setOff hno1 (off1 6 (by decide) (by decide)) _
    have s5' : (σ'.set 6 (some (V.int (0 + (i : Int)))))[5]? = some (some (.ref a)) := by rw [List.getElem?_set_ne (by decide)]; exact S.s5
    generalize σ'.set 6 (some (.int (0 + (i : Int)))) = σ6 at *
    obtain ⟨w3, s3, rp3⟩ := slot en6 (by decide) r3
    obtain ⟨w4, s4, rp4⟩ := slot en6 (by decide) r4
    obtain ⟨w2, s2, rp2⟩ := slot en6 (by decide) r2
    cases rp3 with
    | lst g3 ra3 =>
    rename_i q3a us3
    have hi' : i < rws.length := by omega
    obtain ⟨ui, hui, rui⟩ := ra3.get (List.getElem?_eq_getElem hi')
    obtain ⟨pds, px, hct, hpi, hPi⟩ := partsI_get hP (List.getElem?_eq_getElem hi')
    obtain ⟨rds, rx, hrd, hri, hRi⟩ := rowsI_get hR (List.getElem?_eq_getElem hi')
    have lpx : px.length = n := of_decide_eq_true (List.all_eq_true.mp hPn px (List.mem_of_getElem? hPi))
    have lrx : rx.length = n := of_decide_eq_true (List.all_eq_true.mp hRn rx (List.mem_of_getElem? hRi))
    rw [tSeq, tAsg]
    refine ⟨_, s3, _, e6, q3a, us3, _, ui, rfl, rfl, .of (S.x.s _ _ g3), atI0 hui, _, s4, _, s2, ?_⟩
    refine ⟨A, Gc, [rws[i], oth, rad], .lst pds, en6.cel, S.x.s, .cons rui (.cons rp4 (.cons rp2 .nil)), hct, fun G7 H7 v7 x7 rp7 => ?_⟩
    cases rp7 with
    | lst g7 ra7 =>
    rename_i q7 ws
    have ews := intL_rp ra7 hpi
    subst ews
    dsimp only [gName]
    have l6 : σ6.length = 12 := by rw [en6.len, hrl]
    have e7 : (σ6.set 7 (some (.ref q7)))[7]? = some (some (.ref q7)) := List.getElem?_set_self (by omega)
    have e67 : (σ6.set 7 (some (.ref q7)))[6]? = some (some (.int (0 + (i : Int)))) := by rw [List.getElem?_set_ne (by decide)]; exact e6
    have en7 : En C A H0 G7 H7 (σ6.set 7 (some (.ref q7))) ρ1 := (en6.ext x7).setOff hno1 (off1 7 (by decide) (by decide)) _
    have s57 : (σ6.set 7 (some (V.ref q7)))[5]? = some (some (.ref a)) := by rw [List.getElem?_set_ne (by decide)]; exact s5'
    generalize σ6.set 7 (some (.ref q7)) = σ7 at *
    have S7 : LeS C A G0 H0 G ρ1 a bs n R P i 0 G7 H7 σ7 := ⟨S.sg.trans x7.g, S.x.trans x7, en7, s57, x7.h _ _ S.ha, x7.f _ _ S.ha S.ga, fun j b hb => ⟨x7.h _ _ (S.hb j b hb).1, x7.f _ _ (S.hb j b hb).1 (S.hb j b hb).2⟩⟩
    obtain ⟨w0, s0, rp0⟩ := slot en7 (by decide) r0
    cases rp0 with
    | lst g0 ra0 =>
    rename_i q0a us0
    have us0l : us0.length = n := by rw [ra0.len]; exact hnn
    refine ⟨_, s0, q0a, us0, rfl, .inl (.of (x7.s _ _ g0)), (us0.length : Int), rfl, by omega, by omega, ?_⟩
    rw [show ((us0.length : Int)).toNat = n by omega]
    refine for_range (lo := 0) (n := n) (fun k σ' H' => ∃ G', LeS C A G0 H0 G ρ1 a bs n R P i k G' H' σ' ∧ Same G7 G' ∧ σ'[6]? = some (some (.int (0 + (i : Int)))) ∧ σ'[7]? = some (some (.ref q7))) ⟨G7, S7, fun _ _ h => h, e67, e7⟩ ?it ?id
    case id =>
      rintro σ' H' ⟨G', S', _, _, _⟩
      refine ⟨G', S'.sg, S'.x, S'.en, S'.s5, S'.ha, S'.ga, fun j b hb => ⟨?_, (S'.hb j b hb).2⟩⟩
      rw [(S'.hb j b hb).1]
      refine congrArg some (congrArg HO.lst ?_)
      unfold rowV
      refine List.map_congr_left fun l hl' => ?_
      rw [prog_turn R P n i j l (List.mem_range.mp hl')]
    case it =>
      intro k σ' Hd hk ⟨Gd, T, sg7, t6, t7⟩
      show tSeq _ _ _ (σ'.set 8 (some (.int (0 + (k : Int))))) Hd
      have lσ' : σ'.length = 12 := by rw [T.en.len, hrl]
      have e8 : (σ'.set 8 (some (.int (0 + (k : Int)))))[8]? = some (some (.int (0 + (k : Int)))) := List.getElem?_set_self (by omega)
      have en8 : En C A H0 Gd Hd (σ'.set 8 (some (.int (0 + (k : Int))))) ρ1 := T.en.setOff hno1 (off1 8 (by decide) (by decide)) _
      have u5 : (σ'.set 8 (some (V.int (0 + (k : Int)))))[5]? = some (some (.ref a)) := by rw [List.getElem?_set_ne (by decide)]; exact T.s5
      have u6 : (σ'.set 8 (some (V.int (0 + (k : Int)))))[6]? = some (some (.int (0 + (i : Int)))) := by rw [List.getElem?_set_ne (by decide)]; exact t6
      have u7 : (σ'.set 8 (some (V.int (0 + (k : Int)))))[7]? = some (some (.ref q7)) := by rw [List.getElem?_set_ne (by decide)]; exact t7
      generalize σ'.set 8 (some (.int (0 + (k : Int)))) = σ8 at *
      have T8 : LeS C A G0 H0 G ρ1 a bs n R P i k Gd Hd σ8 := ⟨T.sg, T.x, en8, u5, T.ha, T.ga, T.hb⟩
      obtain ⟨b, hb, mb⟩ := bget (j := i) (by omega)
      obtain ⟨b', hb', mb'⟩ := bget (j := i + 1) (by omega)
      have nbb : b' ≠ b := fun z => by
        subst z
        have h1 := List.getElem?_eq_some_iff.mp hb
        have h2 := List.getElem?_eq_some_iff.mp hb'
        have := (List.getElem_inj F.nd).mp (h1.2.trans h2.2.symm)
        omega
      have vb := (T8.hb i b hb).1
      have vb' := (T8.hb (i + 1) b' hb').1
      have g7' : Hd q7 = some (.lst (px.map V.int)) := T8.x.s _ _ (sg7 _ _ g7)
      have p7k : (px.map V.int)[k]? = some (.int (at2 P i k)) := by
        rw [ints_row lpx, rowV_get _ hk, at2_of hPi]
      rw [tSeq, tAsg]
      refine ⟨_, u5, _, u6, a, _, _, _, rfl, rfl, .of T8.ha, atI0 (bmap hb), _, e8, .inl ⟨b, _, _, _, rfl, rfl, .of vb, atI0 (rowV_get _ hk), _, u7, _, e8, .inl ⟨q7, _, _, _, rfl, rfl, .of g7', atI0 p7k, _, _, rfl, rfl, ?_⟩⟩⟩
      refine ⟨_, u5, _, u6, a, _, _, _, rfl, rfl, .of T8.ha, atI0 (bmap hb), _, e8, b, _, _, k, rfl, rfl, vb, by rw [rowV_len]; exact ixN0 hk, ?_⟩
      obtain ⟨X9, en9, ha9⟩ := T8.put hno1 F mb (.lst ((rowV n (prog R P i k i)).set k (.int (prog R P i k i k - at2 P i k))))
      have vb9 : (upd Hd b (.lst ((rowV n (prog R P i k i)).set k (.int (prog R P i k i k - at2 P i k))))) b' = some (.lst (rowV n (prog R P i k (i + 1)))) := by rw [upd_ne nbb]; exact vb'
      obtain ⟨w3, s3, rp3⟩ := slot en9 (by decide) r3
      cases rp3 with
      | lst g3 ra3 =>
      rename_i q3b us3b
      obtain ⟨uj, huj, ruj⟩ := ra3.get (List.getElem?_eq_getElem hi')
      rw [hrd] at ruj
      cases ruj with
      | lst gj rj =>
      rename_i cj wj
      have ewj := intL_rp rj hri
      subst ewj
      have rjk : (rx.map V.int)[k]? = some (.int (at2 R i k)) := by
        rw [ints_row lrx, rowV_get _ hk, at2_of hRi]
      dsimp only
      rw [tAsg]
      refine ⟨_, u5, _, u6, _, _, rfl, rfl, a, _, _, _, rfl, rfl, .of ha9, atI1 (bmap hb'), _, e8, .inl ⟨b', _, _, _, rfl, rfl, .of vb9, atI0 (rowV_get _ hk), _, s3, _, u6, q3b, _, _, _, rfl, rfl, .of (X9.s _ _ g3), atI0 huj, _, e8, .inl ⟨cj, _, _, _, rfl, rfl, .of (X9.s _ _ gj), atI0 rjk, _, _, rfl, rfl, ?_⟩⟩⟩
      refine ⟨_, u5, _, u6, _, _, rfl, rfl, a, _, _, _, rfl, rfl, .of ha9, atI1 (bmap hb'), _, e8, b', _, _, k, rfl, rfl, vb9, by rw [rowV_len]; exact ixN0 hk, ?_⟩
      have gb' := (T8.hb (i + 1) b' hb').2
      have ga' : a ≠ b' := fun z => F.na (z ▸ mb')
      generalize hH9 : upd Hd b (.lst ((rowV n (prog R P i k i)).set k (.int (prog R P i k i k - at2 P i k)))) = H9 at *
      refine ⟨Gd, ⟨T8.sg, ⟨X9.g, fun c u q => ?_, fun c u q => ?_, X9.f⟩, en9.heap hno1 (fun _ _ h => h) fun c hc => ?_, u5, ?_, T8.ga, fun j c hc => ⟨?_, (T8.hb j c hc).2⟩⟩, sg7, u6, u7⟩
      · rw [upd_ne (fun z => by rw [z, gb'] at q; cases q)]; exact X9.s _ _ q
      · rw [upd_ne (fun z => by rw [z, F.b0 b' mb'] at q; cases q)]; exact X9.h _ _ q
      · obtain ⟨⟨u, h1⟩, h2⟩ := en9.cel c hc
        exact ⟨⟨u, by rw [upd_ne (fun z => by subst z; exact F.bA c mb' hc)]; exact h1⟩, h2⟩
      · rw [upd_ne ga']; exact ha9
      · have prow : ∀ j, rowV n (prog R P i (k + 1) j) = (List.range n).map fun l => if j = i + 1 ∧ l = k then V.int (prog R P i k (i + 1) k + at2 R i k) else if j = i ∧ l = k then V.int (prog R P i k i k - at2 P i k) else V.int (prog R P i k j l) := fun j => by
          unfold rowV
          refine List.map_congr_left fun l _ => ?_
          rw [prog_step]
          split
          · rfl
          · split <;> rfl
        by_cases z : c = b'
        · subst z
          have ej : j = i + 1 := by
            have h1 := List.getElem?_eq_some_iff.mp hc
            have h2 := List.getElem?_eq_some_iff.mp hb'
            have := (List.getElem_inj F.nd).mp (h1.2.trans h2.2.symm)
            omega
          subst ej
          rw [upd_same, prow]
          refine congrArg some (congrArg HO.lst ?_)
          unfold rowV
          rw [map_range_set]
          refine List.map_congr_left fun l _ => ?_
          by_cases e : l = k
          · rw [if_pos e, if_pos ⟨rfl, e⟩]
          · rw [if_neg e, if_neg (fun h => e h.2), if_neg (by omega)]
        · rw [upd_ne z]
          have nj' : j ≠ i + 1 := fun e => by
            subst e
            rw [hb'] at hc
            exact z (Option.some.inj hc).symm
          by_cases y : c = b
          · subst y
            have ej : j = i := by
              have h1 := List.getElem?_eq_some_iff.mp hc
              have h2 := List.getElem?_eq_some_iff.mp hb
              have := (List.getElem_inj F.nd).mp (h1.2.trans h2.2.symm)
              omega
            subst ej
            rw [← hH9, upd_same, prow]
            refine congrArg some (congrArg HO.lst ?_)
            unfold rowV
            rw [map_range_set]
            refine List.map_congr_left fun l _ => ?_
            by_cases e : l = k
            · rw [if_pos e, if_neg (fun h => nj' h.1), if_pos ⟨rfl, e⟩]
            · rw [if_neg e, if_neg (fun h => e h.2), if_neg (fun h => e h.2)]
          · have nj : j ≠ i := fun e => by
              subst e
              rw [hb] at hc
              exact y (Option.some.inj hc).symm
            rw [← hH9, upd_ne y, (T8.hb j c hc).1, prow]
            refine congrArg some (congrArg HO.lst ?_)
            unfold rowV
            refine List.map_congr_left fun l _ => ?_
            rw [if_neg (fun h => nj' h.1), if_neg (fun h => nj h.1)]
  case done =>
    rintro σ' Hc ⟨Gc, S⟩
    show ∃ v, σ'[5]? = some (some v) ∧ E.nx (σ'.set 3 (some v)) Hc
    refine ⟨_, S.s5, ?_⟩
    have lσ : σ'.length = 12 := by rw [S.en.len, hrl]
    -- all of it stands for good from here on
    let Gf : Hp := fun c => if c = a then some (.lst (bs.map V.ref)) else if c ∈ bs then Hc c else Gc c
    have gfa : Gf a = some (.lst (bs.map V.ref)) := if_pos rfl
    have gfb : ∀ {c : Addr}, c ∈ bs → Gf c = Hc c := fun {c} h => by
      show (if c = a then _ else if c ∈ bs then Hc c else Gc c) = _
      rw [if_neg (fun z => by subst z; exact F.na h), if_pos h]
    have gfo : ∀ {c : Addr}, c ≠ a → c ∉ bs → Gf c = Gc c := fun {c} h1 h2 => by
      show (if c = a then _ else if c ∈ bs then Hc c else Gc c) = _
      rw [if_neg h1, if_neg h2]
    have gcb : ∀ {c : Addr}, c ∈ bs → Gc c = none := fun {c} h => by
      obtain ⟨j, hj⟩ := List.mem_iff_getElem?.mp h
      exact (S.hb j c hj).2
    have sgf : Same Gc Gf := fun c u q => by
      rw [gfo (fun z => by rw [z, S.ga] at q; cases q) (fun z => by rw [gcb z] at q; cases q)]; exact q
    have shf : Same Gf Hc := fun c u q => by
      by_cases z : c = a
      · subst z; rw [gfa] at q; cases q; exact S.ha
      · by_cases y : c ∈ bs
        · rw [gfb y] at q; exact q
        · rw [gfo z y] at q; exact S.x.s _ _ q
    have hLv : Rp C A Gf (.ref a) (.lst (lgI n m R P)) := by
      refine .lst gfa ?_
      have all : ∀ (js : List Nat) (cs : List Addr), cs.length = js.length → (∀ (t : Nat) (j : Nat) (c : Addr), js[t]? = some j → cs[t]? = some c → bs[j]? = some c) →
          RpAll C A Gf (cs.map V.ref) (js.map fun j => D.lst ((List.range n).map fun l => .int (prog R P m 0 j l))) := fun js => by
        induction js with
        | nil => intro cs h _; cases cs with
          | nil => exact .nil
          | cons c cs => cases h
        | cons j js ih =>
          intro cs h hh
          cases cs with
          | nil => cases h
          | cons c cs =>
            have hb := hh 0 j c rfl rfl
            refine .cons (.lst (vs := rowV n (prog R P m 0 j)) ?_ ?_) (ih cs (by simpa using h) fun t j' c' h1 h2 => hh (t + 1) j' c' (by simpa using h1) (by simpa using h2))
            · rw [gfb (List.mem_of_getElem? hb)]; exact (S.hb j c hb).1
            · have : ∀ ls : List Nat, RpAll C A Gf (ls.map fun l => V.int (prog R P m 0 j l)) (ls.map fun l => D.int (prog R P m 0 j l)) := fun ls => by
                induction ls with
                | nil => exact .nil
                | cons l ls ih => exact .cons (.int _) ih
              exact this _
      refine all (List.range (m + 1)) bs (by rw [List.length_range]; exact lenb) fun t j c h1 h2 => ?_
      have ht := (List.getElem?_eq_some_iff.mp h1).1
      rw [List.length_range] at ht
      rw [List.getElem?_range ht] at h1
      cases h1
      exact h2
    refine fin Gf Hc (σ'.set 3 (some (.ref a))) (S.sg.trans sgf) ⟨S.x.g.trans sgf, shf, S.x.h, fun c u q q' => ?_⟩ ⟨?_, fun i d h => ?_, fun i ds h => ?_, fun i j di dj c h => ?_, fun c hc => ?_⟩
    · rw [gfo (fun z => by rw [z, F.a0] at q; cases q) (fun z => by rw [F.b0 c z] at q; cases q)]
      exact S.x.f _ _ q q'
    · rw [List.length_set, lσ]; simp [hl]
    · by_cases h3 : i = 3
      · subst h3
        rw [List.getElem?_set_ne (by decide), List.getElem?_set_ne (by decide), List.getElem?_set_ne (by decide), List.getElem?_set_ne (by decide), List.getElem?_set_self (by omega)] at h
        cases h
        exact ⟨_, List.getElem?_set_self (by omega), hLv⟩
      · by_cases h5 : i = 5
        · subst h5
          rw [List.getElem?_set_ne (by decide), List.getElem?_set_ne (by decide), List.getElem?_set_ne (by decide), List.getElem?_set_self (by rw [List.length_set]; omega)] at h
          cases h
          exact ⟨_, by rw [List.getElem?_set_ne (by decide)]; exact S.s5, hLv⟩
        · have h678 : ¬ (i = 6 ∨ i = 7 ∨ i = 8) := fun z => by
            simp only [List.getElem?_set, List.length_set, hl] at h
            rcases z with rfl | rfl | rfl <;> simp at h
          rw [List.getElem?_set_ne (by omega), List.getElem?_set_ne (by omega), List.getElem?_set_ne (by omega), List.getElem?_set_ne (by omega), List.getElem?_set_ne (by omega)] at h
          have hr1 : ρ1[i]? = some (.val d) := by
            rw [← hρ]
            rw [List.getElem?_set_ne (by omega), List.getElem?_set_ne (by omega), List.getElem?_set_ne (by omega), List.getElem?_set_ne (by omega)]
            exact h
          obtain ⟨v, h1, h2⟩ := S.en.val i d hr1
          exact ⟨v, by rw [List.getElem?_set_ne (by omega)]; exact h1, h2.mono sgf⟩
    · exfalso
      have hm' := List.mem_of_getElem? h
      have step : ∀ {l : List Sl} {i : Nat} {s : Sl}, (∀ x ∈ l, notOwn x = true) → notOwn s = true → ∀ x ∈ l.set i s, notOwn x = true := fun {l i s} h hs x hx => by
        rcases List.mem_or_eq_of_mem_set hx with h1 | h1
        · exact h x h1
        · subst h1; exact hs
      have := step (step (step (step (step (List.all_eq_true.mp hno) rfl) rfl) rfl) rfl) rfl _ hm'
      cases this
    · exfalso
      have hm' := List.mem_of_getElem? h
      have step : ∀ {l : List Sl} {i : Nat} {s : Sl}, (∀ x ∈ l, notOwn x = true) → notOwn s = true → ∀ x ∈ l.set i s, notOwn x = true := fun {l i s} h hs x hx => by
        rcases List.mem_or_eq_of_mem_set hx with h1 | h1
        · exact h x h1
        · subst h1; exact hs
      have := step (step (step (step (step (List.all_eq_true.mp hno) rfl) rfl) rfl) rfl) rfl _ hm'
      cases this
    · obtain ⟨⟨u, h1⟩, h2⟩ := S.en.cel c hc
      refine ⟨⟨u, h1⟩, ?_⟩
      rw [gfo (fun z => by subst z; exact F.aA hc) (fun z => F.bA c z hc)]
      exact h2
end
end DN

set_option maxHeartbeats 1000000
/-! < of ints, and of tuples of ints -/
namespace DN
open PySem PySem.Spec PyProof.Rows L2 KG
def lexV (ns ms : List Int) : Bool := Ob.lexAt (fun j => decide (ns.getD j 0 = ms.getD j 0)) (fun j => decide (ns.getD j 0 < ms.getD j 0)) (decide (ns.length < ms.length)) 0 (min ns.length ms.length)
def rLtT (K : PySem.W.Frag) : R2 := fun x y H Q => ∃ (a b : Addr) (ns ms : List Int), x = .ref a ∧ y = .ref b ∧ SqT K H a (ns.map V.int) ∧ SqT K H b (ms.map V.int) ∧ Q (.bl (lexV ns ms)) H
theorem op_ltT {X : Cx} (hu : X.A.units < cLine) : OpR X (compareOp .Lt) (rLtT X.K) := by
  intro pins s σ H x y v u Q I rx ry h
  obtain ⟨a, b, ns, ms, rfl, rfl, ha, hb, q⟩ := h
  cases rx
  cases ry
  obtain ⟨its, r1, p1, _⟩ := I.tuple ha
  obtain ⟨its2, r2, p2, _⟩ := I.tuple hb
  have i1 : IntsAre its ns := Vals.ints r1
  have i2 : IntsAre its2 ms := Vals.ints r2
  have e1 : its.toArray.size = ns.length := by rw [List.size_toArray]; exact i1.length
  have e2 : its2.toArray.size = ms.length := by rw [List.size_toArray]; exact i2.length
  have at1 : ∀ j (h1 : j < its.toArray.size), ∃ t, its.toArray[j] = .int (ns.getD j 0) t := fun j h1 => PyProof.Rows.IntsAre.int_at i1 _ _ (by simp at h1; simp [h1])
  have at2 : ∀ j (h1 : j < its2.toArray.size), ∃ t, its2.toArray[j] = .int (ms.getD j 0) t := fun j h1 => PyProof.Rows.IntsAre.int_at i2 _ _ (by simp at h1; simp [h1])
  have R := Ob.RcOp.tuples_lt (A := X.A) (s := s) (e := fun j => decide (ns.getD j 0 = ms.getD j 0)) (r := fun j => decide (ns.getD j 0 < ms.getD j 0)) p1 p2 hu (fun j h1 h2 => by
    obtain ⟨t, et⟩ := at1 j h1
    obtain ⟨t', et'⟩ := at2 j h2
    rw [et, et']
    have z : (ns.getD j 0 == ms.getD j 0) = decide (ns.getD j 0 = ms.getD j 0) := by
      by_cases q : ns.getD j 0 = ms.getD j 0
      · rw [decide_eq_true q]; exact beq_iff_eq.mpr q
      · rw [decide_eq_false q]; exact beq_eq_false_iff_ne.mpr q
    rw [← z]
    exact SeqAt.EqAt.int_int _ _ _ _) (fun j h1 h2 _ => by
    obtain ⟨t, et⟩ := at1 j h1
    obtain ⟨t', et'⟩ := at2 j h2
    rw [et, et']
    exact Ob.RcOp.lt_int _ _ _ _)
  rw [e1, e2] at R
  have z : wpAny (model X.prog X.w) X.A (compareOp .Lt (.ref a) (.ref b)) (EP X pins σ Q) X.xe s := R X.prog X.w X.xe (EP X pins σ Q) ⟨.bl _, H, I, rfl, q⟩
  exact z
def fLtA : D → D → Option D
  | .int a, .int b => some (.bl (decide (a < b)))
  | .tup a, .tup b => (intL a).bind fun ns => (intL b).bind fun ms => some (.bl (lexV ns ms))
  | _, _ => none
def rLtA (K : PySem.W.Frag) : R2 := fun x y H Q => rI0 (fun i j => .bl (decide (i < j))) x y H Q ∨ rLtT K x y H Q
theorem is_ltA {C : Addr} {K : PySem.W.Frag} : Is2 C (rLtA K) fLtA := fun A G H x y a b d Q sm ra rb hd k => by
  unfold fLtA at hd
  split at hd
  · cases ra; cases rb; cases hd
    exact .inl ⟨_, _, rfl, rfl, k G H _ (.refl sm) (.bl _)⟩
  · obtain ⟨ns, h1, hd⟩ := obind hd
    obtain ⟨ms, h2, hd⟩ := obind hd
    cases hd
    cases ra with
    | tup e1 r1 =>
      cases rb with
      | tup e2 r2 =>
        have q1 := intL_rp r1 h1
        have q2 := intL_rp r2 h2
        subst q1
        subst q2
        exact .inr ⟨_, _, ns, ms, rfl, rfl, .of (sm _ _ e1), .of (sm _ _ e2), k G H _ (.refl sm) (.bl _)⟩
  · cases hd
section
variable {X : Cx} {C : Addr} {pos : Pos} {a b : Expr} {da db : List Sl → Option D}
theorem dn_ltA (hu : X.A.units < cLine) (ha : PE X a (tD C da)) (hb : PE X b (tD C db)) : PE X (.Compare a [.Lt] [b] pos) (tD C (d2 fLtA da db)) := dn_cmp (r := rLtA X.K) is_ltA (op_lt.or (op_ltT hu)) ha hb (nomark _)
theorem dt_ltA (hu : X.A.units < cLine) (ha : PE X a (tD C da)) (hb : PE X b (tD C db)) : PT X (.Compare a [.Lt] [b] pos) (tB C (dAsB (d2 fLtA da db))) := dt_cmp (r := rLtA X.K) is_ltA (op_lt.or (op_ltT hu)) ha hb (nomark _)
end
end DN

/-! lists of one's own out of comprehensions; in, not in; ^ -/
namespace DN
open PySem PySem.Spec PyProof.Rows L2 KG
def sNewC (i : Nat) (dl : List Sl → Option (List D)) : List Sl → Option Out := fun ρ => (dl ρ).bind fun ds => some (.nx (ρ.set i (.own ds)))
section
variable {X : Cx} {C : Addr} {S : CS} {pos : Pos}
theorem ds_newLc {i : Nat} {y : Str} {py spos : Pos} {elt tg iter : Expr} {scope : Scope} {own : List (Str × Nat)} {is : List Nat} {di : List Sl → Option (List D)} {g : D → List Sl → Option (List Sl)} {te : List Sl → Option D} (hc : X.calm = true) (hN : X.N.Nodup) (hy : X.N[i]? = some y) (hyl : X.env.scope.names.lookup y = some .local)
    (hsw : swapsWith (.ListComp elt [⟨tg, iter, [], 0⟩] scope pos) (some (.Name y py)) spos.line X.env = pure true) (hi : PI X tg iter (tI C di)) (ok : BlkOk X.N X.env.scope scope own)
    (hg : ∀ (s : Shared) (H : Hp) (A : Addr) (cl : List (Str × Addr)) (fp : List Addr), PG (X.blk s H scope (compEnvC scope cl A X.env) fp) tg (tG C is g)) (ht : ∀ (s : Shared) (H : Hp) (A : Addr) (cl : List (Str × Addr)) (fp : List Addr), PTs (X.blk s H scope (compEnvC scope cl A X.env) fp) [] (tB C bYes))
    (he : ∀ (s : Shared) (H : Hp) (A : Addr) (cl : List (Str × Addr)) (fp : List Addr), PE (X.blk s H scope (compEnvC scope cl A X.env) fp) elt (tD C te)) (hv : ∀ i ∈ is, i ∈ own.map (·.2) := by decide) (hs : ∀ x, foldedSetIterable iter X.env x = pure x := by intro _; rfl) :
    PS X (.Assign [.Name y py] (.ListComp elt [⟨tg, iter, [], 0⟩] scope pos) spos) (tS C (sNewC i (dLcN di g te (own.map (·.2))))) :=
  ps_to (ps_setLc hc hN hy hyl hsw hi ok hg ht he hs) fun E σ H ⟨A, G0, H0, G, ρ, o, x0, en, hd, fin⟩ => by
    obtain ⟨ds, h1, hd⟩ := obind hd
    cases hd
    refine lcN_ok hv σ H _ ⟨A, H0, G, ρ, ds, en, x0.s, h1, fun G1 H1 p vs x1 np gp hp r1 => ?_⟩
    have X1 := x0.trans x1
    have n0 : H0 p = none := by
      cases q : H0 p with
      | none => rfl
      | some u => rw [x0.h _ _ q] at np; cases np
    have na : p ∉ A := fun z => by
      obtain ⟨⟨o, k1⟩, _⟩ := en.cel p z
      rw [np] at k1; cases k1
    have en1 := en.ext x1
    refine fin G1 H1 _ x1.g X1 ⟨by rw [List.length_set, List.length_set, en.len], fun j x h => ?_, fun j x h => ?_, fun j k x y b h1 h2 h3 h4 => ?_, en1.cel⟩
    · rcases set_get h with ⟨rfl, h, hl⟩ | ⟨ne, h⟩
      · cases h
      · rw [List.getElem?_set_ne (Ne.symm ne)]; exact en1.val j x h
    · rcases set_get h with ⟨rfl, h, hl⟩ | ⟨ne, h⟩
      · cases h; exact ⟨p, vs, List.getElem?_set_self (by rw [en.len]; exact hl), hp, gp, n0, r1, na⟩
      · rw [List.getElem?_set_ne (Ne.symm ne)]; exact en1.own j x h
    · have apart : ∀ j x, ρ[j]? = some (Sl.own x) → σ[j]? ≠ some (some (V.ref p)) := fun j x h z => by
        obtain ⟨b, us, h1, h2, _⟩ := en.own j x h
        rw [z] at h1; cases h1
        rw [np] at h2; cases h2
      rcases set_get h1 with ⟨rfl, q1, hl1⟩ | ⟨ne1, q1⟩
      · rcases set_get h2 with ⟨rfl, q2, hl2⟩ | ⟨ne2, q2⟩
        · rfl
        · rw [List.getElem?_set_self (by rw [en.len]; exact hl1)] at h3
          cases h3
          rw [List.getElem?_set_ne (Ne.symm ne2)] at h4
          exact absurd h4 (apart k y q2)
      · rcases set_get h2 with ⟨rfl, q2, hl2⟩ | ⟨ne2, q2⟩
        · rw [List.getElem?_set_self (by rw [en.len]; exact hl2)] at h4
          cases h4
          rw [List.getElem?_set_ne (Ne.symm ne1)] at h3
          exact absurd h3 (apart j x q1)
        · rw [List.getElem?_set_ne (Ne.symm ne1)] at h3
          rw [List.getElem?_set_ne (Ne.symm ne2)] at h4
          exact en1.sep j k x y b q1 q2 h3 h4
abbrev fXor := fI20 Builtin.bitXor
theorem dn_xor {a b : Expr} {da db : List Sl → Option D} (ha : PE X a (tD C da)) (hb : PE X b (tD C db)) : PE X (.BinOp a .BitXor b pos) (tD C (d2 fXor da db)) := dn_op is_i20 op_xor ha hb
def inLst (a : D) : D → Option Bool
  | .lst ds => if noNum a && noNums ds && SeqAt.shaped (toP a) && SeqAt.shaped (.list (toPs ds)) then some ((toPs ds).any fun z => PyData.eqv z (toP a)) else none
  | _ => none
def fInD (a b : D) : Option D := (inLst a b).map .bl
def fNinD (a b : D) : Option D := (inLst a b).map fun c => .bl (!c)
theorem inLst_ok {K : PySem.W.Frag} {A : List Addr} {G H : Hp} {x y : V} {a b : D} {c : Bool} (sm : Same G H) (ra : Rp C A G x a) (rb : Rp C A G y b) (h : inLst a b = some c) : ∃ d ds, Dp K H x d ∧ Dp K H y (.list ds) ∧ SeqAt.shaped d = true ∧ SeqAt.shaped (.list ds) = true ∧ (ds.any fun z => PyData.eqv z d) = c := by
  unfold inLst at h
  split at h
  · split at h
    · rename_i ds hc
      simp only [Bool.and_eq_true] at hc
      cases h
      have nn : noNum (.lst ds) = true := by simpa [noNum] using hc.1.1.2
      exact ⟨_, _, ra.dp sm hc.1.1.1, by simpa [toP] using rb.dp (K := K) sm nn, hc.1.2, hc.2, rfl⟩
    · cases h
  · cases h
theorem is_inD {K : PySem.W.Frag} : Is2 C (rInD K) fInD := fun A G H x y a b d Q sm ra rb hd k => by
  unfold fInD at hd
  rw [Option.map_eq_some_iff] at hd
  obtain ⟨c, h1, rfl⟩ := hd
  obtain ⟨e, es, p1, p2, p3, p4, p5⟩ := inLst_ok (K := K) sm ra rb h1
  exact ⟨e, es, p1, p2, p3, p4, by rw [p5]; exact k G H _ (.refl sm) (.bl _)⟩
theorem is_ninD {K : PySem.W.Frag} : Is2 C (rNotInD K) fNinD := fun A G H x y a b d Q sm ra rb hd k => by
  unfold fNinD at hd
  rw [Option.map_eq_some_iff] at hd
  obtain ⟨c, h1, rfl⟩ := hd
  obtain ⟨e, es, p1, p2, p3, p4, p5⟩ := inLst_ok (K := K) sm ra rb h1
  exact ⟨e, es, p1, p2, p3, p4, by rw [p5]; exact k G H _ (.refl sm) (.bl _)⟩
variable {a b : Expr} {da db : List Sl → Option D} {k : Nat}
theorem units65 {A : Around} (hr : Room k A) : A.units + 65 < cLine := by have := hr.un; omega
theorem dn_inD (hr : Room k X.A) (ha : PE X a (tD C da)) (hb : PE X b (tD C db)) (hm : behindInMarks .In b = false := by rfl) : PE X (.Compare a [.In] [b] pos) (tD C (d2 fInD da db)) := dn_cmp is_inD (op_inD (units65 hr)) ha hb hm
theorem dn_ninD (hr : Room k X.A) (ha : PE X a (tD C da)) (hb : PE X b (tD C db)) (hm : behindInMarks .NotIn b = false := by rfl) : PE X (.Compare a [.NotIn] [b] pos) (tD C (d2 fNinD da db)) := dn_cmp is_ninD (op_notInD (units65 hr)) ha hb hm
theorem dt_inD (hr : Room k X.A) (ha : PE X a (tD C da)) (hb : PE X b (tD C db)) (hm : behindInMarks .In b = false := by rfl) : PT X (.Compare a [.In] [b] pos) (tB C (dAsB (d2 fInD da db))) := dt_cmp is_inD (op_inD (units65 hr)) ha hb hm
theorem dt_ninD (hr : Room k X.A) (ha : PE X a (tD C da)) (hb : PE X b (tD C db)) (hm : behindInMarks .NotIn b = false := by rfl) : PT X (.Compare a [.NotIn] [b] pos) (tB C (dAsB (d2 fNinD da db))) := dt_cmp is_ninD (op_notInD (units65 hr)) ha hb hm
end
end DN

set_option maxHeartbeats 4000000
namespace KW
open PySem PySem.Spec PyProof.Rows L2 KG DN
section
variable {P : Program} {w : World} {K : PySem.W.Frag} {mg : Str → Option Value} {base : Heap} {S : CS}
abbrev splus : Stmt := topS 3
abbrev Nplus : List Str := ["one", "other", "m", "n"]
theorem scplus : FnScope Nplus ["one", "other"] (defScope splus) := ⟨rfl, rfl, rfl, by decide +kernel, rfl, by decide +kernel, by decide +kernel⟩
def denplus : List Sl → Option Out :=
  (sRet (dCall fTuple (ac (dLc (iZipD (ac (dV 0) (ac (dV 1) a0))) (gTu 2 (gcons (gN 2) (gcons (gN 3) gnil))) bYes (d2 fAdd (dV 2) (dV 3)) [2, 3]) a0)))
theorem okplus {f : Addr} {fd : FuncData} {k : Nat} (F : Fun K "plus" "plus" splus f fd) (M : Names mg) (Z : CtxN P w K mg S) (TNumber : ClsC K (S.cl 0) ["tower", "element"]) (TField : ClsC K (S.cl 1) ["tower", "known_roots"]) : FnOk P w K mg base CX0 (k + 1) f fd ["one", "other"] (SpD S.cls (runD 2 4 (denplus))) :=
  fn_den F scplus fun cdv A outer s H E hr => (ds_one (ds_ret (dn_callTy (is_tuple (K := K)) call_tuple_of (by rfl) M.tuple (by decide +kernel) (da_cons (dn_lc (own := [("m", 2), ("n", 3)]) (by rfl) scplus.nd (di_zip (by rfl) M.zip (da_cons (dn_var (i := 0)) (da_cons (dn_var (i := 1)) da_nil))) (blkOk_by (own := [("m", 2), ("n", 3)]) (N := Nplus) (sc := defScope splus) (by decide +kernel)) (fun _ _ _ _ _ => (dg_tup rfl (dg_cons (dg_name (i := 2) scplus.nd) (dg_cons (dg_name (i := 3) scplus.nd) dg_nil)))) (fun _ _ _ _ _ => dts_nil) (fun _ _ _ _ _ => (dn_add (dn_var (i := 2)) (dn_var (i := 3))))) da_nil))))
abbrev sminus : Stmt := topS 4
abbrev Nminus : List Str := ["one", "other", "m", "n"]
theorem scminus : FnScope Nminus ["one", "other"] (defScope sminus) := ⟨rfl, rfl, rfl, by decide +kernel, rfl, by decide +kernel, by decide +kernel⟩
def denminus : List Sl → Option Out :=
  (sRet (dCall fTuple (ac (dLc (iZipD (ac (dV 0) (ac (dV 1) a0))) (gTu 2 (gcons (gN 2) (gcons (gN 3) gnil))) bYes (d2 fSub (dV 2) (dV 3)) [2, 3]) a0)))
theorem okminus {f : Addr} {fd : FuncData} {k : Nat} (F : Fun K "minus" "minus" sminus f fd) (M : Names mg) (Z : CtxN P w K mg S) (TNumber : ClsC K (S.cl 0) ["tower", "element"]) (TField : ClsC K (S.cl 1) ["tower", "known_roots"]) : FnOk P w K mg base CX0 (k + 1) f fd ["one", "other"] (SpD S.cls (runD 2 4 (denminus))) :=
  fn_den F scminus fun cdv A outer s H E hr => (ds_one (ds_ret (dn_callTy (is_tuple (K := K)) call_tuple_of (by rfl) M.tuple (by decide +kernel) (da_cons (dn_lc (own := [("m", 2), ("n", 3)]) (by rfl) scminus.nd (di_zip (by rfl) M.zip (da_cons (dn_var (i := 0)) (da_cons (dn_var (i := 1)) da_nil))) (blkOk_by (own := [("m", 2), ("n", 3)]) (N := Nminus) (sc := defScope sminus) (by decide +kernel)) (fun _ _ _ _ _ => (dg_tup rfl (dg_cons (dg_name (i := 2) scminus.nd) (dg_cons (dg_name (i := 3) scminus.nd) dg_nil)))) (fun _ _ _ _ _ => dts_nil) (fun _ _ _ _ _ => (dn_sub (dn_var (i := 2)) (dn_var (i := 3))))) da_nil))))
abbrev stimes : Stmt := topS 5
abbrev Ntimes : List Str := ["vector", "factor", "n"]
theorem sctimes : FnScope Ntimes ["vector", "factor"] (defScope stimes) := ⟨rfl, rfl, rfl, by decide +kernel, rfl, by decide +kernel, by decide +kernel⟩
def dentimes : List Sl → Option Out :=
  (sRet (dCall fTuple (ac (dLc (iSeq (dV 0)) (gN 2) bYes (d2 fMul (dV 2) (dV 1)) [2]) a0)))
theorem oktimes {f : Addr} {fd : FuncData} {k : Nat} (F : Fun K "times" "times" stimes f fd) (M : Names mg) (Z : CtxN P w K mg S) (TNumber : ClsC K (S.cl 0) ["tower", "element"]) (TField : ClsC K (S.cl 1) ["tower", "known_roots"]) : FnOk P w K mg base CX0 (k + 1) f fd ["vector", "factor"] (SpD S.cls (runD 2 3 (dentimes))) :=
  fn_den F sctimes fun cdv A outer s H E hr => (ds_one (ds_ret (dn_callTy (is_tuple (K := K)) call_tuple_of (by rfl) M.tuple (by decide +kernel) (da_cons (dn_lc (own := [("n", 2)]) (by rfl) sctimes.nd (di_seq (dn_var (i := 0))) (blkOk_by (own := [("n", 2)]) (N := Ntimes) (sc := defScope stimes) (by decide +kernel)) (fun _ _ _ _ _ => (dg_name (i := 2) sctimes.nd)) (fun _ _ _ _ _ => dts_nil) (fun _ _ _ _ _ => (dn_mul (dn_var (i := 2)) (dn_var (i := 1))))) da_nil))))
abbrev spadded : Stmt := topS 6
abbrev Npadded : List Str := ["vector", "size"]
theorem scpadded : FnScope Npadded ["vector", "size"] (defScope spadded) := ⟨rfl, rfl, rfl, by decide +kernel, rfl, by decide +kernel, by decide +kernel⟩
def denpadded : List Sl → Option Out :=
  (sRet (d2 fAdd (dV 0) (d2 fMul (dTup (ac (dK (.int 0)) a0)) (d2 fSub (dV 1) (dCall fLen (ac (dV 0) a0))))))
theorem okpadded {f : Addr} {fd : FuncData} {k : Nat} (F : Fun K "padded" "padded" spadded f fd) (M : Names mg) (Z : CtxN P w K mg S) (TNumber : ClsC K (S.cl 0) ["tower", "element"]) (TField : ClsC K (S.cl 1) ["tower", "known_roots"]) : FnOk P w K mg base CX0 (k + 1) f fd ["vector", "size"] (SpD S.cls (runD 2 2 (denpadded))) :=
  fn_den F scpadded fun cdv A outer s H E hr => (ds_one (ds_ret (dn_add (dn_var (i := 0)) (dn_mul (dn_tup (da_cons dn_int da_nil)) (dn_sub (dn_var (i := 1)) (dn_callB is_len call_len_seq (by rfl) M.len PySem.boot_len (da_cons (dn_var (i := 0)) da_nil)))))))
abbrev smultiplied : Stmt := topS 8
abbrev Nmultiplied : List Str := ["tower", "one", "other", "half", "low", "high", "lows", "highs", "mixed", "raised"]
theorem scmultiplied : FnScope Nmultiplied ["tower", "one", "other"] (defScope smultiplied) := ⟨rfl, rfl, rfl, by decide +kernel, rfl, by decide +kernel, by decide +kernel⟩
def denmultiplied (cmultiplied : List D → Option D) (cplus : List D → Option D) (cminus : List D → Option D) : List Sl → Option Out :=
  (sSeq (sSet 3 (d2 fDiv (dCall fLen (ac (dV 1) a0)) (dK (.int 2))))
  (sSeq (sIf (dAsB (d2 fEq (dV 3) (dK (.int 0))))
    (sRet (dTup (ac (d2 fMul (d2 fIx (dV 1) (dK (.int 0))) (d2 fIx (dV 2) (dK (.int 0)))) a0)))
    sNext)
  (sSeq (sIf (dAsB (d2 fEq (dV 3) (dK (.int 1))))
    (sRet (dTup (ac (d2 fAdd (d2 fMul (d2 fIx (dV 1) (dK (.int 0))) (d2 fIx (dV 2) (dK (.int 0)))) (d2 fMul (d2 fMul (d2 fIx (d2 fIx (dV 0) (dK (.int 0))) (dK (.int 0))) (d2 fIx (dV 1) (dK (.int 1)))) (d2 fIx (dV 2) (dK (.int 1))))) (ac (d2 fAdd (d2 fMul (d2 fIx (dV 1) (dK (.int 0))) (d2 fIx (dV 2) (dK (.int 1)))) (d2 fMul (d2 fIx (dV 1) (dK (.int 1))) (d2 fIx (dV 2) (dK (.int 0))))) a0))))
    sNext)
  (sSeq (sPar 4 5 (ac (dSl (dV 1) p0 (p1 (dV 3))) (ac (dSl (dV 1) (p1 (dV 3)) p0) a0)))
  (sSeq (sIf (bNot (dTru (dCall fAny (ac (dV 5) a0))))
    (sRet (d2 fAdd (dCall cmultiplied (ac (dV 0) (ac (dV 4) (ac (dSl (dV 2) p0 (p1 (dV 3))) a0)))) (dCall cmultiplied (ac (dV 0) (ac (dV 4) (ac (dSl (dV 2) (p1 (dV 3)) p0) a0))))))
    sNext)
  (sSeq (sIf (bNot (dTru (dCall fAny (ac (dSl (dV 2) (p1 (dV 3)) p0) a0))))
    (sRet (d2 fAdd (dCall cmultiplied (ac (dV 0) (ac (dV 4) (ac (dSl (dV 2) p0 (p1 (dV 3))) a0)))) (dCall cmultiplied (ac (dV 0) (ac (dV 5) (ac (dSl (dV 2) p0 (p1 (dV 3))) a0))))))
    sNext)
  (sSeq (sSet 6 (dCall cmultiplied (ac (dV 0) (ac (dV 4) (ac (dSl (dV 2) p0 (p1 (dV 3))) a0)))))
  (sSeq (sSet 7 (dCall cmultiplied (ac (dV 0) (ac (dV 5) (ac (dSl (dV 2) (p1 (dV 3)) p0) a0)))))
  (sSeq (sSet 8 (dCall cmultiplied (ac (dV 0) (ac (dCall cplus (ac (dV 4) (ac (dV 5) a0))) (ac (dCall cplus (ac (dSl (dV 2) p0 (p1 (dV 3))) (ac (dSl (dV 2) (p1 (dV 3)) p0) a0))) a0)))))
  (sSeq (sSet 9 dNev)
  (sRet (d2 fAdd (dCall cplus (ac (dV 6) (ac (dV 9) a0))) (dCall cminus (ac (dCall cminus (ac (dV 8) (ac (dV 6) a0))) (ac (dV 7) a0)))))))))))))))
theorem okmultiplied {f : Addr} {fd : FuncData} {k : Nat} (F : Fun K "multiplied" "multiplied" smultiplied f fd) (M : Names mg) (Z : CtxN P w K mg S) (TNumber : ClsC K (S.cl 0) ["tower", "element"]) (TField : ClsC K (S.cl 1) ["tower", "known_roots"]) {cmultiplied : List D → Option D} {cplus : List D → Option D} {cminus : List D → Option D} (Gmultiplied : Cal P w K mg base k "multiplied" ["tower", "one", "other"] (SpD S.cls cmultiplied)) (Gplus : Cal P w K mg base k "plus" ["one", "other"] (SpD S.cls cplus)) (Gminus : Cal P w K mg base k "minus" ["one", "other"] (SpD S.cls cminus)) : FnOk P w K mg base CX0 (k + 1) f fd ["tower", "one", "other"] (SpD S.cls (runD 3 10 (denmultiplied cmultiplied cplus cminus))) :=
  fn_den F scmultiplied fun cdv A outer s H E hr => (ds_cons (ds_set (i := 3) scmultiplied.nd (dn_div (dn_callB is_len call_len_seq (by rfl) M.len PySem.boot_len (da_cons (dn_var (i := 1)) da_nil)) dn_int))
  (ds_cons (ds_if (dt_eq hr.units (dn_var (i := 3)) dn_int)
    (ds_one (ds_ret (dn_tup (da_cons (dn_mul (dn_sub_ix (dn_var (i := 1)) dn_int (fun _ _ => rfl)) (dn_sub_ix (dn_var (i := 2)) dn_int (fun _ _ => rfl))) da_nil))))
    ds_nil)
  (ds_cons (ds_if (dt_eq hr.units (dn_var (i := 3)) dn_int)
    (ds_one (ds_ret (dn_tup (da_cons (dn_add (dn_mul (dn_sub_ix (dn_var (i := 1)) dn_int (fun _ _ => rfl)) (dn_sub_ix (dn_var (i := 2)) dn_int (fun _ _ => rfl))) (dn_mul (dn_mul (dn_sub_ix (dn_sub_ix (dn_var (i := 0)) dn_int (fun _ _ => rfl)) dn_int (fun _ _ => rfl)) (dn_sub_ix (dn_var (i := 1)) dn_int (fun _ _ => rfl))) (dn_sub_ix (dn_var (i := 2)) dn_int (fun _ _ => rfl)))) (da_cons (dn_add (dn_mul (dn_sub_ix (dn_var (i := 1)) dn_int (fun _ _ => rfl)) (dn_sub_ix (dn_var (i := 2)) dn_int (fun _ _ => rfl))) (dn_mul (dn_sub_ix (dn_var (i := 1)) dn_int (fun _ _ => rfl)) (dn_sub_ix (dn_var (i := 2)) dn_int (fun _ _ => rfl)))) da_nil)))))
    ds_nil)
  (ds_cons (ds_par (i := 4) (j := 5) rfl scmultiplied.nd (da_cons (dn_slice (dn_var (i := 1)) dp_none (dp_some (dn_var (i := 3)))) (da_cons (dn_slice (dn_var (i := 1)) (dp_some (dn_var (i := 3))) dp_none) da_nil)))
  (ds_cons (ds_if (dt_not (dt_truth (dn_callB (is_any (K := K)) (cr_anyA rfl) (by rfl) M.any (by decide +kernel) (da_cons (dn_var (i := 5)) da_nil))))
    (ds_one (ds_ret (dn_add (dn_call Gmultiplied.ok hr (by rfl) Gmultiplied.m Gmultiplied.kp Gmultiplied.b pass0 (da_cons (dn_var (i := 0)) (da_cons (dn_var (i := 4)) (da_cons (dn_slice (dn_var (i := 2)) dp_none (dp_some (dn_var (i := 3)))) da_nil)))) (dn_call Gmultiplied.ok hr (by rfl) Gmultiplied.m Gmultiplied.kp Gmultiplied.b pass0 (da_cons (dn_var (i := 0)) (da_cons (dn_var (i := 4)) (da_cons (dn_slice (dn_var (i := 2)) (dp_some (dn_var (i := 3))) dp_none) da_nil)))))))
    ds_nil)
  (ds_cons (ds_if (dt_not (dt_truth (dn_callB (is_any (K := K)) (cr_anyA rfl) (by rfl) M.any (by decide +kernel) (da_cons (dn_slice (dn_var (i := 2)) (dp_some (dn_var (i := 3))) dp_none) da_nil))))
    (ds_one (ds_ret (dn_add (dn_call Gmultiplied.ok hr (by rfl) Gmultiplied.m Gmultiplied.kp Gmultiplied.b pass0 (da_cons (dn_var (i := 0)) (da_cons (dn_var (i := 4)) (da_cons (dn_slice (dn_var (i := 2)) dp_none (dp_some (dn_var (i := 3)))) da_nil)))) (dn_call Gmultiplied.ok hr (by rfl) Gmultiplied.m Gmultiplied.kp Gmultiplied.b pass0 (da_cons (dn_var (i := 0)) (da_cons (dn_var (i := 5)) (da_cons (dn_slice (dn_var (i := 2)) dp_none (dp_some (dn_var (i := 3)))) da_nil)))))))
    ds_nil)
  (ds_cons (ds_set (i := 6) scmultiplied.nd (dn_call Gmultiplied.ok hr (by rfl) Gmultiplied.m Gmultiplied.kp Gmultiplied.b pass0 (da_cons (dn_var (i := 0)) (da_cons (dn_var (i := 4)) (da_cons (dn_slice (dn_var (i := 2)) dp_none (dp_some (dn_var (i := 3)))) da_nil)))))
  (ds_cons (ds_set (i := 7) scmultiplied.nd (dn_call Gmultiplied.ok hr (by rfl) Gmultiplied.m Gmultiplied.kp Gmultiplied.b pass0 (da_cons (dn_var (i := 0)) (da_cons (dn_var (i := 5)) (da_cons (dn_slice (dn_var (i := 2)) (dp_some (dn_var (i := 3))) dp_none) da_nil)))))
  (ds_cons (ds_set (i := 8) scmultiplied.nd (dn_call Gmultiplied.ok hr (by rfl) Gmultiplied.m Gmultiplied.kp Gmultiplied.b pass0 (da_cons (dn_var (i := 0)) (da_cons (dn_call Gplus.ok hr (by rfl) Gplus.m Gplus.kp Gplus.b pass0 (da_cons (dn_var (i := 4)) (da_cons (dn_var (i := 5)) da_nil))) (da_cons (dn_call Gplus.ok hr (by rfl) Gplus.m Gplus.kp Gplus.b pass0 (da_cons (dn_slice (dn_var (i := 2)) dp_none (dp_some (dn_var (i := 3)))) (da_cons (dn_slice (dn_var (i := 2)) (dp_some (dn_var (i := 3))) dp_none) da_nil))) da_nil)))))
  (ds_cons (ds_set (i := 9) scmultiplied.nd dn_nev)
  (ds_one (ds_ret (dn_add (dn_call Gplus.ok hr (by rfl) Gplus.m Gplus.kp Gplus.b pass0 (da_cons (dn_var (i := 6)) (da_cons (dn_var (i := 9)) da_nil))) (dn_call Gminus.ok hr (by rfl) Gminus.m Gminus.kp Gminus.b pass0 (da_cons (dn_call Gminus.ok hr (by rfl) Gminus.m Gminus.kp Gminus.b pass0 (da_cons (dn_var (i := 8)) (da_cons (dn_var (i := 6)) da_nil))) (da_cons (dn_var (i := 7)) da_nil))))))))))))))))
abbrev slowest : Stmt := topS 11
abbrev Nlowest : List Str := ["vector", "scale", "common", "n"]
theorem sclowest : FnScope Nlowest ["vector", "scale"] (defScope slowest) := ⟨rfl, rfl, rfl, by decide +kernel, rfl, by decide +kernel, by decide +kernel⟩
def denlowest : List Sl → Option Out :=
  (sSeq (sSet 2 (dV 1))
  (sSeq (sFor (iSeq (dV 0)) (gN 3)
    (sSeq (sIf (dAsB (d2 fEq (dV 2) (dK (.int 1))))
      sBrk
      sNext)
    (sSet 2 (dCall fGcd (ac (dV 2) (ac (dV 3) a0))))))
  (sSeq (sIf (dAsB (d2 fLtA (dV 1) (dK (.int 0))))
    (sSet 2 (d1 (fI1 fun i => -i) (dCall fAbs (ac (dV 2) a0))))
    sNext)
  (sSeq (sIf (dAsB (d2 fEq (dV 2) (dK (.int 1))))
    (sRet (dTup (ac (dV 0) (ac (dV 1) a0))))
    sNext)
  (sRet (dTup (ac (dCall fTuple (ac (dLc (iSeq (dV 0)) (gN 3) bYes (d2 fDiv (dV 3) (dV 2)) [3]) a0)) (ac (d2 fDiv (dV 1) (dV 2)) a0))))))))
theorem oklowest {f : Addr} {fd : FuncData} {k : Nat} (F : Fun K "lowest" "lowest" slowest f fd) (M : Names mg) (Z : CtxN P w K mg S) (TNumber : ClsC K (S.cl 0) ["tower", "element"]) (TField : ClsC K (S.cl 1) ["tower", "known_roots"]) : FnOk P w K mg base CX0 (k + 1) f fd ["vector", "scale"] (SpD S.cls (runD 2 4 (denlowest))) :=
  fn_den F sclowest fun cdv A outer s H E hr => (ds_cons (ds_set (i := 2) sclowest.nd (dn_var (i := 1)))
  (ds_cons (ds_for PassesOwn.never rfl (di_seq (dn_var (i := 0))) (dg_name (i := 3) sclowest.nd)
    (ds_cons (ds_if (dt_eq hr.units (dn_var (i := 2)) dn_int)
      (ds_one ds_break)
      ds_nil)
    (ds_one (ds_set (i := 2) sclowest.nd (dn_callBfun is_gcd cr_gcd (by rfl) M.gcd (da_cons (dn_var (i := 2)) (da_cons (dn_var (i := 3)) da_nil)))))))
  (ds_cons (ds_if (dt_ltA hr.units0 (dn_var (i := 1)) dn_int)
    (ds_one (ds_set (i := 2) sclowest.nd (dn_neg (dn_callB is_abs call_abs (by rfl) M.abs (by decide +kernel) (da_cons (dn_var (i := 2)) da_nil)))))
    ds_nil)
  (ds_cons (ds_if (dt_eq hr.units (dn_var (i := 2)) dn_int)
    (ds_one (ds_ret (dn_tup (da_cons (dn_var (i := 0)) (da_cons (dn_var (i := 1)) da_nil)))))
    ds_nil)
  (ds_one (ds_ret (dn_tup (da_cons (dn_callTy (is_tuple (K := K)) call_tuple_of (by rfl) M.tuple (by decide +kernel) (da_cons (dn_lc (own := [("n", 3)]) (by rfl) sclowest.nd (di_seq (dn_var (i := 0))) (blkOk_by (own := [("n", 3)]) (N := Nlowest) (sc := defScope slowest) (by decide +kernel)) (fun _ _ _ _ _ => (dg_name (i := 3) sclowest.nd)) (fun _ _ _ _ _ => dts_nil) (fun _ _ _ _ _ => (dn_div (dn_var (i := 3)) (dn_var (i := 2))))) da_nil)) (da_cons (dn_div (dn_var (i := 1)) (dn_var (i := 2))) da_nil)))))))))
abbrev sinverse : Stmt := topS 12
abbrev Ninverse : List Str := ["tower", "vector", "half", "low", "high", "turned", "scale"]
theorem scinverse : FnScope Ninverse ["tower", "vector"] (defScope sinverse) := ⟨rfl, rfl, rfl, by decide +kernel, rfl, by decide +kernel, by decide +kernel⟩
def deninverse (clowest : List D → Option D) (cinverse : List D → Option D) (cpadded : List D → Option D) (cmultiplied : List D → Option D) (ctimes : List D → Option D) : List Sl → Option Out :=
  (sSeq (sSet 2 (d2 fDiv (dCall fLen (ac (dV 1) a0)) (dK (.int 2))))
  (sSeq (sIf (dAsB (d2 fEq (dV 2) (dK (.int 0))))
    (sRet (dCall clowest (ac (dTup (ac (dK (.int 1)) a0)) (ac (d2 fIx (dV 1) (dK (.int 0))) a0))))
    sNext)
  (sSeq (sPar 3 4 (ac (dSl (dV 1) p0 (p1 (dV 2))) (ac (dSl (dV 1) (p1 (dV 2)) p0) a0)))
  (sSeq (sIf (bNot (dTru (dCall fAny (ac (dV 4) a0))))
    (sSeq (sAsg (dCall cinverse (ac (dV 0) (ac (dV 3) a0))) (gTu 2 (gcons (gN 5) (gcons (gN 6) gnil))))
    (sRet (dTup (ac (dCall cpadded (ac (dV 5) (ac (dCall fLen (ac (dV 1) a0)) a0))) (ac (dV 6) a0)))))
    sNext)
  (sSeq (sAsg (dCall cinverse (ac (dV 0) (ac dNev a0))) (gTu 2 (gcons (gN 5) (gcons (gN 6) gnil))))
  (sRet (dCall clowest (ac (d2 fAdd (dCall cmultiplied (ac (dV 0) (ac (dV 3) (ac (dV 5) a0)))) (dCall cmultiplied (ac (dV 0) (ac (dCall ctimes (ac (dV 4) (ac (d1 (fI1 fun i => -i) (dK (.int 1))) a0))) (ac (dV 5) a0))))) (ac (dV 6) a0)))))))))
theorem okinverse {f : Addr} {fd : FuncData} {k : Nat} (F : Fun K "inverse" "inverse" sinverse f fd) (M : Names mg) (Z : CtxN P w K mg S) (TNumber : ClsC K (S.cl 0) ["tower", "element"]) (TField : ClsC K (S.cl 1) ["tower", "known_roots"]) {clowest : List D → Option D} {cinverse : List D → Option D} {cpadded : List D → Option D} {cmultiplied : List D → Option D} {ctimes : List D → Option D} (Glowest : Cal P w K mg base k "lowest" ["vector", "scale"] (SpD S.cls clowest)) (Ginverse : Cal P w K mg base k "inverse" ["tower", "vector"] (SpD S.cls cinverse)) (Gpadded : Cal P w K mg base k "padded" ["vector", "size"] (SpD S.cls cpadded)) (Gmultiplied : Cal P w K mg base k "multiplied" ["tower", "one", "other"] (SpD S.cls cmultiplied)) (Gtimes : Cal P w K mg base k "times" ["vector", "factor"] (SpD S.cls ctimes)) : FnOk P w K mg base CX0 (k + 1) f fd ["tower", "vector"] (SpD S.cls (runD 2 7 (deninverse clowest cinverse cpadded cmultiplied ctimes))) :=
  fn_den F scinverse fun cdv A outer s H E hr => (ds_cons (ds_set (i := 2) scinverse.nd (dn_div (dn_callB is_len call_len_seq (by rfl) M.len PySem.boot_len (da_cons (dn_var (i := 1)) da_nil)) dn_int))
  (ds_cons (ds_if (dt_eq hr.units (dn_var (i := 2)) dn_int)
    (ds_one (ds_ret (dn_call Glowest.ok hr (by rfl) Glowest.m Glowest.kp Glowest.b pass0 (da_cons (dn_tup (da_cons dn_int da_nil)) (da_cons (dn_sub_ix (dn_var (i := 1)) dn_int (fun _ _ => rfl)) da_nil)))))
    ds_nil)
  (ds_cons (ds_par (i := 3) (j := 4) rfl scinverse.nd (da_cons (dn_slice (dn_var (i := 1)) dp_none (dp_some (dn_var (i := 2)))) (da_cons (dn_slice (dn_var (i := 1)) (dp_some (dn_var (i := 2))) dp_none) da_nil)))
  (ds_cons (ds_if (dt_not (dt_truth (dn_callB (is_any (K := K)) (cr_anyA rfl) (by rfl) M.any (by decide +kernel) (da_cons (dn_var (i := 4)) da_nil))))
    (ds_cons (ds_asg (dn_call Ginverse.ok hr (by rfl) Ginverse.m Ginverse.kp Ginverse.b pass0 (da_cons (dn_var (i := 0)) (da_cons (dn_var (i := 3)) da_nil))) (dg_tup rfl (dg_cons (dg_name (i := 5) scinverse.nd) (dg_cons (dg_name (i := 6) scinverse.nd) dg_nil))))
    (ds_one (ds_ret (dn_tup (da_cons (dn_call Gpadded.ok hr (by rfl) Gpadded.m Gpadded.kp Gpadded.b pass0 (da_cons (dn_var (i := 5)) (da_cons (dn_callB is_len call_len_seq (by rfl) M.len PySem.boot_len (da_cons (dn_var (i := 1)) da_nil)) da_nil))) (da_cons (dn_var (i := 6)) da_nil))))))
    ds_nil)
  (ds_cons (ds_asg (dn_call Ginverse.ok hr (by rfl) Ginverse.m Ginverse.kp Ginverse.b pass0 (da_cons (dn_var (i := 0)) (da_cons dn_nev da_nil))) (dg_tup rfl (dg_cons (dg_name (i := 5) scinverse.nd) (dg_cons (dg_name (i := 6) scinverse.nd) dg_nil))))
  (ds_one (ds_ret (dn_call Glowest.ok hr (by rfl) Glowest.m Glowest.kp Glowest.b pass0 (da_cons (dn_add (dn_call Gmultiplied.ok hr (by rfl) Gmultiplied.m Gmultiplied.kp Gmultiplied.b pass0 (da_cons (dn_var (i := 0)) (da_cons (dn_var (i := 3)) (da_cons (dn_var (i := 5)) da_nil)))) (dn_call Gmultiplied.ok hr (by rfl) Gmultiplied.m Gmultiplied.kp Gmultiplied.b pass0 (da_cons (dn_var (i := 0)) (da_cons (dn_call Gtimes.ok hr (by rfl) Gtimes.m Gtimes.kp Gtimes.b pass0 (da_cons (dn_var (i := 4)) (da_cons (dn_neg dn_int) da_nil))) (da_cons (dn_var (i := 5)) da_nil))))) (da_cons (dn_var (i := 6)) da_nil))))))))))
abbrev selement_sum : Stmt := topS 13
abbrev Nelement_sum : List Str := ["one", "other", "vector", "scale", "second", "divider"]
theorem scelement_sum : FnScope Nelement_sum ["one", "other"] (defScope selement_sum) := ⟨rfl, rfl, rfl, by decide +kernel, rfl, by decide +kernel, by decide +kernel⟩
def denelement_sum (ctimes : List D → Option D) (cplus : List D → Option D) (clowest : List D → Option D) : List Sl → Option Out :=
  (sSeq (sAsg (dTup (ac (dV 0) (ac (dV 1) a0))) (gTu 2 (gcons (gTu 2 (gcons (gN 2) (gcons (gN 3) gnil))) (gcons (gTu 2 (gcons (gN 4) (gcons (gN 5) gnil))) gnil))))
  (sRet (dCall clowest (ac (dCall cplus (ac (dCall ctimes (ac (dV 2) (ac (dV 5) a0))) (ac (dCall ctimes (ac (dV 4) (ac (dV 3) a0))) a0))) (ac (d2 fMul (dV 3) (dV 5)) a0)))))
theorem okelement_sum {f : Addr} {fd : FuncData} {k : Nat} (F : Fun K "element_sum" "element_sum" selement_sum f fd) (M : Names mg) (Z : CtxN P w K mg S) (TNumber : ClsC K (S.cl 0) ["tower", "element"]) (TField : ClsC K (S.cl 1) ["tower", "known_roots"]) {ctimes : List D → Option D} {cplus : List D → Option D} {clowest : List D → Option D} (Gtimes : Cal P w K mg base k "times" ["vector", "factor"] (SpD S.cls ctimes)) (Gplus : Cal P w K mg base k "plus" ["one", "other"] (SpD S.cls cplus)) (Glowest : Cal P w K mg base k "lowest" ["vector", "scale"] (SpD S.cls clowest)) : FnOk P w K mg base CX0 (k + 1) f fd ["one", "other"] (SpD S.cls (runD 2 6 (denelement_sum ctimes cplus clowest))) :=
  fn_den F scelement_sum fun cdv A outer s H E hr => (ds_cons (ds_asg (dn_tup (da_cons (dn_var (i := 0)) (da_cons (dn_var (i := 1)) da_nil))) (dg_tup rfl (dg_cons (dg_tup rfl (dg_cons (dg_name (i := 2) scelement_sum.nd) (dg_cons (dg_name (i := 3) scelement_sum.nd) dg_nil))) (dg_cons (dg_tup rfl (dg_cons (dg_name (i := 4) scelement_sum.nd) (dg_cons (dg_name (i := 5) scelement_sum.nd) dg_nil))) dg_nil))))
  (ds_one (ds_ret (dn_call Glowest.ok hr (by rfl) Glowest.m Glowest.kp Glowest.b pass0 (da_cons (dn_call Gplus.ok hr (by rfl) Gplus.m Gplus.kp Gplus.b pass0 (da_cons (dn_call Gtimes.ok hr (by rfl) Gtimes.m Gtimes.kp Gtimes.b pass0 (da_cons (dn_var (i := 2)) (da_cons (dn_var (i := 5)) da_nil))) (da_cons (dn_call Gtimes.ok hr (by rfl) Gtimes.m Gtimes.kp Gtimes.b pass0 (da_cons (dn_var (i := 4)) (da_cons (dn_var (i := 3)) da_nil))) da_nil))) (da_cons (dn_mul (dn_var (i := 3)) (dn_var (i := 5))) da_nil))))))
abbrev selement_difference : Stmt := topS 14
abbrev Nelement_difference : List Str := ["one", "other", "vector", "scale", "second", "divider"]
theorem scelement_difference : FnScope Nelement_difference ["one", "other"] (defScope selement_difference) := ⟨rfl, rfl, rfl, by decide +kernel, rfl, by decide +kernel, by decide +kernel⟩
def denelement_difference (ctimes : List D → Option D) (cminus : List D → Option D) (clowest : List D → Option D) : List Sl → Option Out :=
  (sSeq (sAsg (dTup (ac (dV 0) (ac (dV 1) a0))) (gTu 2 (gcons (gTu 2 (gcons (gN 2) (gcons (gN 3) gnil))) (gcons (gTu 2 (gcons (gN 4) (gcons (gN 5) gnil))) gnil))))
  (sRet (dCall clowest (ac (dCall cminus (ac (dCall ctimes (ac (dV 2) (ac (dV 5) a0))) (ac (dCall ctimes (ac (dV 4) (ac (dV 3) a0))) a0))) (ac (d2 fMul (dV 3) (dV 5)) a0)))))
theorem okelement_difference {f : Addr} {fd : FuncData} {k : Nat} (F : Fun K "element_difference" "element_difference" selement_difference f fd) (M : Names mg) (Z : CtxN P w K mg S) (TNumber : ClsC K (S.cl 0) ["tower", "element"]) (TField : ClsC K (S.cl 1) ["tower", "known_roots"]) {ctimes : List D → Option D} {cminus : List D → Option D} {clowest : List D → Option D} (Gtimes : Cal P w K mg base k "times" ["vector", "factor"] (SpD S.cls ctimes)) (Gminus : Cal P w K mg base k "minus" ["one", "other"] (SpD S.cls cminus)) (Glowest : Cal P w K mg base k "lowest" ["vector", "scale"] (SpD S.cls clowest)) : FnOk P w K mg base CX0 (k + 1) f fd ["one", "other"] (SpD S.cls (runD 2 6 (denelement_difference ctimes cminus clowest))) :=
  fn_den F scelement_difference fun cdv A outer s H E hr => (ds_cons (ds_asg (dn_tup (da_cons (dn_var (i := 0)) (da_cons (dn_var (i := 1)) da_nil))) (dg_tup rfl (dg_cons (dg_tup rfl (dg_cons (dg_name (i := 2) scelement_difference.nd) (dg_cons (dg_name (i := 3) scelement_difference.nd) dg_nil))) (dg_cons (dg_tup rfl (dg_cons (dg_name (i := 4) scelement_difference.nd) (dg_cons (dg_name (i := 5) scelement_difference.nd) dg_nil))) dg_nil))))
  (ds_one (ds_ret (dn_call Glowest.ok hr (by rfl) Glowest.m Glowest.kp Glowest.b pass0 (da_cons (dn_call Gminus.ok hr (by rfl) Gminus.m Gminus.kp Gminus.b pass0 (da_cons (dn_call Gtimes.ok hr (by rfl) Gtimes.m Gtimes.kp Gtimes.b pass0 (da_cons (dn_var (i := 2)) (da_cons (dn_var (i := 5)) da_nil))) (da_cons (dn_call Gtimes.ok hr (by rfl) Gtimes.m Gtimes.kp Gtimes.b pass0 (da_cons (dn_var (i := 4)) (da_cons (dn_var (i := 3)) da_nil))) da_nil))) (da_cons (dn_mul (dn_var (i := 3)) (dn_var (i := 5))) da_nil))))))
abbrev selement_product : Stmt := topS 15
abbrev Nelement_product : List Str := ["tower", "one", "other"]
theorem scelement_product : FnScope Nelement_product ["tower", "one", "other"] (defScope selement_product) := ⟨rfl, rfl, rfl, by decide +kernel, rfl, by decide +kernel, by decide +kernel⟩
def denelement_product (cmultiplied : List D → Option D) (clowest : List D → Option D) : List Sl → Option Out :=
  (sRet (dCall clowest (ac (dCall cmultiplied (ac (dV 0) (ac (d2 fIx (dV 1) (dK (.int 0))) (ac (d2 fIx (dV 2) (dK (.int 0))) a0)))) (ac (d2 fMul (d2 fIx (dV 1) (dK (.int 1))) (d2 fIx (dV 2) (dK (.int 1)))) a0))))
theorem okelement_product {f : Addr} {fd : FuncData} {k : Nat} (F : Fun K "element_product" "element_product" selement_product f fd) (M : Names mg) (Z : CtxN P w K mg S) (TNumber : ClsC K (S.cl 0) ["tower", "element"]) (TField : ClsC K (S.cl 1) ["tower", "known_roots"]) {cmultiplied : List D → Option D} {clowest : List D → Option D} (Gmultiplied : Cal P w K mg base k "multiplied" ["tower", "one", "other"] (SpD S.cls cmultiplied)) (Glowest : Cal P w K mg base k "lowest" ["vector", "scale"] (SpD S.cls clowest)) : FnOk P w K mg base CX0 (k + 1) f fd ["tower", "one", "other"] (SpD S.cls (runD 3 3 (denelement_product cmultiplied clowest))) :=
  fn_den F scelement_product fun cdv A outer s H E hr => (ds_one (ds_ret (dn_call Glowest.ok hr (by rfl) Glowest.m Glowest.kp Glowest.b pass0 (da_cons (dn_call Gmultiplied.ok hr (by rfl) Gmultiplied.m Gmultiplied.kp Gmultiplied.b pass0 (da_cons (dn_var (i := 0)) (da_cons (dn_sub_ix (dn_var (i := 1)) dn_int (fun _ _ => rfl)) (da_cons (dn_sub_ix (dn_var (i := 2)) dn_int (fun _ _ => rfl)) da_nil)))) (da_cons (dn_mul (dn_sub_ix (dn_var (i := 1)) dn_int (fun _ _ => rfl)) (dn_sub_ix (dn_var (i := 2)) dn_int (fun _ _ => rfl))) da_nil)))))
abbrev strimmed : Stmt := topS 18
abbrev Ntrimmed : List Str := ["tower", "element", "vector", "scale", "needed", "k", "left"]
theorem sctrimmed : FnScope Ntrimmed ["tower", "element"] (defScope strimmed) := ⟨rfl, rfl, rfl, by decide +kernel, rfl, by decide +kernel, by decide +kernel⟩
def dentrimmed (c_shares : List D → Option D) (c_chosen : List D → Option D) : List Sl → Option Out :=
  (sSeq (sAsg (dV 1) (gTu 2 (gcons (gN 2) (gcons (gN 3) gnil))))
  (sSeq (sSet 4 (dCall c_shares (ac (dV 2) a0)))
  (sSeq (sFor (iRevR1 (dCall fLen (ac (dV 0) a0))) (gN 5)
    (sIf (dTru (d2 fAnd (d2 fShr (dV 4) (dV 5)) (dK (.int 1))))
      (sSet 4 (d2 fOr (dV 4) (dCall c_shares (ac (d2 fIx (dV 0) (dV 5)) a0))))
      sNext))
  (sSeq (sIf (dAsB (d2 fEq (d2 fAdd (dV 4) (dK (.int 1))) (dCall fLen (ac (dV 2) a0))))
    (sRet (dTup (ac (dV 0) (ac (dV 1) a0))))
    sNext)
  (sSeq (sSet 6 (dCall fTuple (ac (dLc (iRng r1D (ac (dCall fLen (ac (dV 0) a0)) a0)) (gN 5) (dTru (d2 fAnd (d2 fShr (dV 4) (dV 5)) (dK (.int 1)))) (dCall c_chosen (ac (d2 fIx (dV 0) (dV 5)) (ac (dV 4) a0))) [5]) a0)))
  (sRet (dTup (ac (dV 6) (ac (dTup (ac (dCall c_chosen (ac (dV 2) (ac (dV 4) a0))) (ac (dV 3) a0))) a0)))))))))
theorem oktrimmed {f : Addr} {fd : FuncData} {k : Nat} (F : Fun K "trimmed" "trimmed" strimmed f fd) (M : Names mg) (Z : CtxN P w K mg S) (TNumber : ClsC K (S.cl 0) ["tower", "element"]) (TField : ClsC K (S.cl 1) ["tower", "known_roots"]) {c_shares : List D → Option D} {c_chosen : List D → Option D} (G_shares : Cal P w K mg base k "_shares" ["vector"] (SpD S.cls c_shares)) (G_chosen : Cal P w K mg base k "_chosen" ["vector", "needed"] (SpD S.cls c_chosen)) : FnOk P w K mg base CX0 (k + 1) f fd ["tower", "element"] (SpD S.cls (runD 2 7 (dentrimmed c_shares c_chosen))) :=
  fn_den F sctrimmed fun cdv A outer s H E hr => (ds_cons (ds_asg (dn_var (i := 1)) (dg_tup rfl (dg_cons (dg_name (i := 2) sctrimmed.nd) (dg_cons (dg_name (i := 3) sctrimmed.nd) dg_nil))))
  (ds_cons (ds_set (i := 4) sctrimmed.nd (dn_call G_shares.ok hr (by rfl) G_shares.m G_shares.kp G_shares.b pass0 (da_cons (dn_var (i := 2)) da_nil)))
  (ds_cons (ds_for PassesOwn.never rfl (di_revR1 (by rfl) M.reversed (by rfl) M.range (dn_callB is_len call_len_seq (by rfl) M.len PySem.boot_len (da_cons (dn_var (i := 0)) da_nil))) (dg_name (i := 5) sctrimmed.nd)
    (ds_one (ds_if (dt_truth (dn_and (dn_shr (dn_var (i := 4)) (dn_var (i := 5))) dn_int))
      (ds_one (ds_set (i := 4) sctrimmed.nd (dn_or (dn_var (i := 4)) (dn_call G_shares.ok hr (by rfl) G_shares.m G_shares.kp G_shares.b pass0 (da_cons (dn_sub_ix (dn_var (i := 0)) (dn_var (i := 5)) (fun _ _ => rfl)) da_nil)))))
      ds_nil)))
  (ds_cons (ds_if (dt_eq hr.units (dn_add (dn_var (i := 4)) dn_int) (dn_callB is_len call_len_seq (by rfl) M.len PySem.boot_len (da_cons (dn_var (i := 2)) da_nil)))
    (ds_one (ds_ret (dn_tup (da_cons (dn_var (i := 0)) (da_cons (dn_var (i := 1)) da_nil)))))
    ds_nil)
  (ds_cons (ds_set (i := 6) sctrimmed.nd (dn_callTy (is_tuple (K := K)) call_tuple_of (by rfl) M.tuple (by decide +kernel) (da_cons (dn_lc (own := [("k", 5)]) (by rfl) sctrimmed.nd (di_range1 (by rfl) M.range (da_cons (dn_callB is_len call_len_seq (by rfl) M.len PySem.boot_len (da_cons (dn_var (i := 0)) da_nil)) da_nil)) (blkOk_by (own := [("k", 5)]) (N := Ntrimmed) (sc := defScope strimmed) (by decide +kernel)) (fun _ _ _ _ _ => (dg_name (i := 5) sctrimmed.nd)) (fun _ _ _ _ _ => (dts_one (dt_truth (dn_and (dn_shr (dn_var (i := 4)) (dn_var (i := 5))) dn_int)))) (fun _ _ _ _ _ => (dn_call G_chosen.ok hr (by rfl) G_chosen.m G_chosen.kp G_chosen.b pass0 (da_cons (dn_sub_ix (dn_var (i := 0)) (dn_var (i := 5)) (fun _ _ => rfl)) (da_cons (dn_var (i := 4)) da_nil))))) da_nil)))
  (ds_one (ds_ret (dn_tup (da_cons (dn_var (i := 6)) (da_cons (dn_tup (da_cons (dn_call G_chosen.ok hr (by rfl) G_chosen.m G_chosen.kp G_chosen.b pass0 (da_cons (dn_var (i := 2)) (da_cons (dn_var (i := 4)) da_nil))) (da_cons (dn_var (i := 3)) da_nil))) da_nil))))))))))
abbrev s_shares : Stmt := topS 19
abbrev N_shares : List Str := ["vector", "bits", "j", "n"]
theorem sc_shares : FnScope N_shares ["vector"] (defScope s_shares) := ⟨rfl, rfl, rfl, by decide +kernel, rfl, by decide +kernel, by decide +kernel⟩
def den_shares : List Sl → Option Out :=
  (sSeq (sSet 1 (dK (.int 0)))
  (sSeq (sFor (iEnumD (ac (dV 0) a0)) (gTu 2 (gcons (gN 2) (gcons (gN 3) gnil)))
    (sIf (dAsB (d2 fNe (dV 3) (dK (.int 0))))
      (sSet 1 (d2 fOr (dV 1) (dV 2)))
      sNext))
  (sRet (dV 1))))
theorem ok_shares {f : Addr} {fd : FuncData} {k : Nat} (F : Fun K "_shares" "_shares" s_shares f fd) (M : Names mg) (Z : CtxN P w K mg S) (TNumber : ClsC K (S.cl 0) ["tower", "element"]) (TField : ClsC K (S.cl 1) ["tower", "known_roots"]) : FnOk P w K mg base CX0 (k + 1) f fd ["vector"] (SpD S.cls (runD 1 4 (den_shares))) :=
  fn_den F sc_shares fun cdv A outer s H E hr => (ds_cons (ds_set (i := 1) sc_shares.nd dn_int)
  (ds_cons (ds_for PassesOwn.never rfl (di_enum (by rfl) M.enumerate (da_cons (dn_var (i := 0)) da_nil)) (dg_tup rfl (dg_cons (dg_name (i := 2) sc_shares.nd) (dg_cons (dg_name (i := 3) sc_shares.nd) dg_nil)))
    (ds_one (ds_if (dt_ne hr.units (dn_var (i := 3)) dn_int)
      (ds_one (ds_set (i := 1) sc_shares.nd (dn_or (dn_var (i := 1)) (dn_var (i := 2)))))
      ds_nil)))
  (ds_one (ds_ret (dn_var (i := 1))))))
abbrev s_chosen : Stmt := topS 20
abbrev N_chosen : List Str := ["vector", "needed", "j", "n"]
theorem sc_chosen : FnScope N_chosen ["vector", "needed"] (defScope s_chosen) := ⟨rfl, rfl, rfl, by decide +kernel, rfl, by decide +kernel, by decide +kernel⟩
def den_chosen : List Sl → Option Out :=
  (sRet (dCall fTuple (ac (dLc (iEnumD (ac (dV 0) a0)) (gTu 2 (gcons (gN 2) (gcons (gN 3) gnil))) (dAsB (d2 fEq (d2 fOr (dV 2) (dV 1)) (dV 1))) (dV 3) [2, 3]) a0)))
theorem ok_chosen {f : Addr} {fd : FuncData} {k : Nat} (F : Fun K "_chosen" "_chosen" s_chosen f fd) (M : Names mg) (Z : CtxN P w K mg S) (TNumber : ClsC K (S.cl 0) ["tower", "element"]) (TField : ClsC K (S.cl 1) ["tower", "known_roots"]) : FnOk P w K mg base CX0 (k + 1) f fd ["vector", "needed"] (SpD S.cls (runD 2 4 (den_chosen))) :=
  fn_den F sc_chosen fun cdv A outer s H E hr => (ds_one (ds_ret (dn_callTy (is_tuple (K := K)) call_tuple_of (by rfl) M.tuple (by decide +kernel) (da_cons (dn_lc (own := [("j", 2), ("n", 3)]) (by rfl) sc_chosen.nd (di_enum (by rfl) M.enumerate (da_cons (dn_var (i := 0)) da_nil)) (blkOk_by (own := [("j", 2), ("n", 3)]) (N := N_chosen) (sc := defScope s_chosen) (by decide +kernel)) (fun _ _ _ _ _ => (dg_tup rfl (dg_cons (dg_name (i := 2) sc_chosen.nd) (dg_cons (dg_name (i := 3) sc_chosen.nd) dg_nil)))) (fun _ _ _ _ _ => (dts_one (dt_eq hr.units (dn_or (dn_var (i := 2)) (dn_var (i := 1))) (dn_var (i := 1))))) (fun _ _ _ _ _ => (dn_var (i := 3)))) da_nil))))
end
end KW

set_option maxHeartbeats 4000000
namespace KW
open PySem PySem.Spec PyProof.Rows L2 KG DN
section
variable {P : Program} {w : World} {K : PySem.W.Frag} {mg : Str → Option Value} {base : Heap} {S : CS}
abbrev sbound : Stmt := topS 23
abbrev Nbound : List Str := ["vector", "basis", "low", "high", "n", "least", "most"]
theorem scbound : FnScope Nbound ["vector", "basis"] (defScope sbound) := ⟨rfl, rfl, rfl, by decide +kernel, rfl, by decide +kernel, by decide +kernel⟩
def denbound : List Sl → Option Out :=
  (sSeq (sAsg2 (dK (.int 0)) (gN 2) (gN 3))
  (sSeq (sFor (iZipD (ac (dV 0) (ac (dV 1) a0))) (gTu 2 (gcons (gN 4) (gcons (gTu 2 (gcons (gN 5) (gcons (gN 6) gnil))) gnil)))
    (sIf (dAsB (d2 (fB20 fun i j => decide (j < i)) (dV 4) (dK (.int 0))))
      (sSeq (sSet 2 (d2 fAdd (dV 2) (d2 fMul (dV 4) (dV 5))))
      (sSet 3 (d2 fAdd (dV 3) (d2 fMul (dV 4) (dV 6)))))
      (sIf (dAsB (d2 fLtA (dV 4) (dK (.int 0))))
        (sSeq (sSet 2 (d2 fAdd (dV 2) (d2 fMul (dV 4) (dV 6))))
        (sSet 3 (d2 fAdd (dV 3) (d2 fMul (dV 4) (dV 5)))))
        sNext)))
  (sRet (dTup (ac (dV 2) (ac (dV 3) a0))))))
theorem okbound {f : Addr} {fd : FuncData} {k : Nat} (F : Fun K "bound" "bound" sbound f fd) (M : Names mg) (Z : CtxN P w K mg S) (TNumber : ClsC K (S.cl 0) ["tower", "element"]) (TField : ClsC K (S.cl 1) ["tower", "known_roots"]) : FnOk P w K mg base CX0 (k + 1) f fd ["vector", "basis"] (SpD S.cls (runD 2 7 (denbound))) :=
  fn_den F scbound fun cdv A outer s H E hr => (ds_cons (ds_asg2 dn_int (dg_name (i := 2) scbound.nd) (dg_name (i := 3) scbound.nd))
  (ds_cons (ds_for PassesOwn.never rfl (di_zip (by rfl) M.zip (da_cons (dn_var (i := 0)) (da_cons (dn_var (i := 1)) da_nil))) (dg_tup rfl (dg_cons (dg_name (i := 4) scbound.nd) (dg_cons (dg_tup rfl (dg_cons (dg_name (i := 5) scbound.nd) (dg_cons (dg_name (i := 6) scbound.nd) dg_nil))) dg_nil)))
    (ds_one (ds_if (dt_gt (dn_var (i := 4)) dn_int)
      (ds_cons (ds_set (i := 2) scbound.nd (dn_add (dn_var (i := 2)) (dn_mul (dn_var (i := 4)) (dn_var (i := 5)))))
      (ds_one (ds_set (i := 3) scbound.nd (dn_add (dn_var (i := 3)) (dn_mul (dn_var (i := 4)) (dn_var (i := 6)))))))
      (ds_one (ds_if (dt_ltA hr.units0 (dn_var (i := 4)) dn_int)
        (ds_cons (ds_set (i := 2) scbound.nd (dn_add (dn_var (i := 2)) (dn_mul (dn_var (i := 4)) (dn_var (i := 6)))))
        (ds_one (ds_set (i := 3) scbound.nd (dn_add (dn_var (i := 3)) (dn_mul (dn_var (i := 4)) (dn_var (i := 5)))))))
        ds_nil)))))
  (ds_one (ds_ret (dn_tup (da_cons (dn_var (i := 2)) (da_cons (dn_var (i := 3)) da_nil)))))))
abbrev s_unit : Stmt := topS 24
abbrev N_unit : List Str := ["bits"]
theorem sc_unit : FnScope N_unit ["bits"] (defScope s_unit) := ⟨rfl, rfl, rfl, by decide +kernel, rfl, by decide +kernel, by decide +kernel⟩
def den_unit : List Sl → Option Out :=
  (sRet (dLst (ac (dTup (ac (d2 fShl (dK (.int 1)) (dV 0)) (ac (d2 fShl (dK (.int 1)) (dV 0)) a0))) a0)))
theorem ok_unit {f : Addr} {fd : FuncData} {k : Nat} (F : Fun K "_unit" "_unit" s_unit f fd) (M : Names mg) (Z : CtxN P w K mg S) (TNumber : ClsC K (S.cl 0) ["tower", "element"]) (TField : ClsC K (S.cl 1) ["tower", "known_roots"]) : FnOk P w K mg base CX0 (k + 1) f fd ["bits"] (SpD S.cls (runD 1 1 (den_unit))) :=
  fn_den F sc_unit fun cdv A outer s H E hr => (ds_one (ds_ret (dn_lst (da_cons (dn_tup (da_cons (dn_shl dn_int (dn_var (i := 0))) (da_cons (dn_shl dn_int (dn_var (i := 0))) da_nil))) da_nil))))
abbrev s_root : Stmt := topS 25
abbrev N_root : List Str := ["square", "bits", "low", "high"]
theorem sc_root : FnScope N_root ["square", "bits"] (defScope s_root) := ⟨rfl, rfl, rfl, by decide +kernel, rfl, by decide +kernel, by decide +kernel⟩
def den_root : List Sl → Option Out :=
  (sSeq (sAsg (dV 0) (gTu 2 (gcons (gN 2) (gcons (gN 3) gnil))))
  (sRet (dTup (ac (dCall fIsqrt (ac (d2 fShl (dCall fMax (ac (dV 2) (ac (dK (.int 0)) a0))) (dV 1)) a0)) (ac (d2 fAdd (dCall fIsqrt (ac (d2 fShl (dV 3) (dV 1)) a0)) (dK (.int 1))) a0)))))
theorem ok_root {f : Addr} {fd : FuncData} {k : Nat} (F : Fun K "_root" "_root" s_root f fd) (M : Names mg) (Z : CtxN P w K mg S) (TNumber : ClsC K (S.cl 0) ["tower", "element"]) (TField : ClsC K (S.cl 1) ["tower", "known_roots"]) : FnOk P w K mg base CX0 (k + 1) f fd ["square", "bits"] (SpD S.cls (runD 2 4 (den_root))) :=
  fn_den F sc_root fun cdv A outer s H E hr => (ds_cons (ds_asg (dn_var (i := 0)) (dg_tup rfl (dg_cons (dg_name (i := 2) sc_root.nd) (dg_cons (dg_name (i := 3) sc_root.nd) dg_nil))))
  (ds_one (ds_ret (dn_tup (da_cons (dn_callBfun is_isqrt cr_isqrt (by rfl) M.isqrt (da_cons (dn_shl (dn_callB (is_max (K := K)) ((call_max2 rfl).or (cr_max rfl)) (by rfl) M.max (by decide +kernel) (da_cons (dn_var (i := 2)) (da_cons dn_int da_nil))) (dn_var (i := 1))) da_nil)) (da_cons (dn_add (dn_callBfun is_isqrt cr_isqrt (by rfl) M.isqrt (da_cons (dn_shl (dn_var (i := 3)) (dn_var (i := 1))) da_nil)) dn_int) da_nil))))))
abbrev s_scaled : Stmt := topS 26
abbrev N_scaled : List Str := ["one", "other", "bits", "products", "m", "n"]
theorem sc_scaled : FnScope N_scaled ["one", "other", "bits"] (defScope s_scaled) := ⟨rfl, rfl, rfl, by decide +kernel, rfl, by decide +kernel, by decide +kernel⟩
def den_scaled : List Sl → Option Out :=
  (sSeq (sSet 3 (dLc2 (iSeq (dV 0)) (gN 4) (iSeq (dV 1)) (gN 5) (d2 fMul (dV 4) (dV 5)) [4, 5] [5]))
  (sRet (dTup (ac (d2 fShr (dCall fMin (ac (dV 3) a0)) (dV 2)) (ac (d1 (fI1 fun i => -i) (d2 fShr (d1 (fI1 fun i => -i) (dCall fMax (ac (dV 3) a0))) (dV 2))) a0)))))
theorem ok_scaled {f : Addr} {fd : FuncData} {k : Nat} (F : Fun K "_scaled" "_scaled" s_scaled f fd) (M : Names mg) (Z : CtxN P w K mg S) (TNumber : ClsC K (S.cl 0) ["tower", "element"]) (TField : ClsC K (S.cl 1) ["tower", "known_roots"]) : FnOk P w K mg base CX0 (k + 1) f fd ["one", "other", "bits"] (SpD S.cls (runD 3 6 (den_scaled))) :=
  fn_den F sc_scaled fun cdv A outer s H E hr => (ds_cons (ds_setLc2 (own := [("m", 4), ("n", 5)]) (vs1 := [5]) (i := 3) (by rfl) sc_scaled.nd rfl rfl (sw_true rfl rfl rfl (by decide +kernel)) (di_seq (dn_var (i := 0))) (blkOk_by (own := [("m", 4), ("n", 5)]) (N := N_scaled) (sc := defScope s_scaled) (by decide +kernel)) (fun _ _ _ _ _ => (dg_name (i := 4) sc_scaled.nd)) (fun _ _ _ _ _ => (di_seq (dn_var (i := 1)))) (fun _ _ _ _ _ => (dg_name (i := 5) sc_scaled.nd)) (fun _ _ _ _ _ => (dn_mul (dn_var (i := 4)) (dn_var (i := 5)))))
  (ds_one (ds_ret (dn_tup (da_cons (dn_shr (dn_callB (is_min (K := K)) ((call_min2 rfl).or (cr_min rfl)) (by rfl) M.min (by decide +kernel) (da_cons (dn_var (i := 3)) da_nil)) (dn_var (i := 2))) (da_cons (dn_neg (dn_shr (dn_neg (dn_callB (is_max (K := K)) ((call_max2 rfl).or (cr_max rfl)) (by rfl) M.max (by decide +kernel) (da_cons (dn_var (i := 3)) da_nil))) (dn_var (i := 2)))) da_nil))))))
abbrev s_bases : Stmt := topS 31
abbrev N_bases : List Str := ["tower", "bits", "found", "generator", "longer", "one", "low", "high", "least", "most", "part"]
theorem sc_bases : FnScope N_bases ["tower", "bits"] (defScope s_bases) := ⟨rfl, rfl, rfl, by decide +kernel, rfl, by decide +kernel, by decide +kernel⟩
def den_bases (c_unit : List D → Option D) (cbound : List D → Option D) (c_root : List D → Option D) (c_scaled : List D → Option D) : List Sl → Option Out :=
  (sSeq (sSet 2 (dLst (ac (dCall c_unit (ac (dV 1) a0)) a0)))
  (sSeq (sFor (iSeq (dV 0)) (gN 3)
    (sSeq (sNew 4 a0)
    (sSeq (sFor (iSeq (dV 2)) (gN 5)
      (sSeq (sAsg (dCall cbound (ac (dV 3) (ac (dV 5) a0))) (gTu 2 (gcons (gN 6) (gcons (gN 7) gnil))))
      (sSeq (sIf (dAsB (dChain (fB20 fun i j => decide (i ≤ j)) (fB20 fun i j => decide (i ≤ j)) (dV 6) (dK (.int 0)) (dV 7)))
        (sRet (dK .non))
        sNext)
      (sIf (dAsB (d2 (fB20 fun i j => decide (j < i)) (dV 6) (dK (.int 0))))
        (sSeq (sAsg (dCall c_root (ac (dTup (ac (dV 6) (ac (dV 7) a0))) (ac (dV 1) a0))) (gTu 2 (gcons (gN 8) (gcons (gN 9) gnil))))
        (sSeq (sApp 4 (d2 fAdd (dV 5) (dLc (iSeq (dV 5)) (gN 10) bYes (dCall c_scaled (ac (dV 10) (ac (dTup (ac (dV 8) (ac (dV 9) a0))) (ac (dV 1) a0)))) [10])))
        (sApp 4 (d2 fAdd (dV 5) (dLc (iSeq (dV 5)) (gN 10) bYes (dCall c_scaled (ac (dV 10) (ac (dTup (ac (d1 (fI1 fun i => -i) (dV 9)) (ac (d1 (fI1 fun i => -i) (dV 8)) a0))) (ac (dV 1) a0)))) [10])))))
        sNext))))
    (sFrz 4 (sSet 2 (dV 4))))))
  (sRet (dV 2))))
theorem ok_bases {f : Addr} {fd : FuncData} {k : Nat} (F : Fun K "_bases" "_bases" s_bases f fd) (M : Names mg) (Z : CtxN P w K mg S) (TNumber : ClsC K (S.cl 0) ["tower", "element"]) (TField : ClsC K (S.cl 1) ["tower", "known_roots"]) {c_unit : List D → Option D} {cbound : List D → Option D} {c_root : List D → Option D} {c_scaled : List D → Option D} (G_unit : Cal P w K mg base k "_unit" ["bits"] (SpD S.cls c_unit)) (Gbound : Cal P w K mg base k "bound" ["vector", "basis"] (SpD S.cls cbound)) (G_root : Cal P w K mg base k "_root" ["square", "bits"] (SpD S.cls c_root)) (G_scaled : Cal P w K mg base k "_scaled" ["one", "other", "bits"] (SpD S.cls c_scaled)) : FnOk P w K mg base CX0 (k + 1) f fd ["tower", "bits"] (SpD S.cls (runD 2 11 (den_bases c_unit cbound c_root c_scaled))) :=
  fn_den F sc_bases fun cdv A outer s H E hr => (ds_cons (ds_set (i := 2) sc_bases.nd (dn_lst (da_cons (dn_call G_unit.ok hr (by rfl) G_unit.m G_unit.kp G_unit.b pass0 (da_cons (dn_var (i := 1)) da_nil)) da_nil)))
  (ds_cons (ds_for PassesOwn.never rfl (di_seq (dn_var (i := 0))) (dg_name (i := 3) sc_bases.nd)
    (ds_cons (ds_new (i := 4) sc_bases.nd da_nil)
    (ds_cons (ds_for PassesOwn.never rfl (di_seq (dn_var (i := 2))) (dg_name (i := 5) sc_bases.nd)
      (ds_cons (ds_asg (dn_call Gbound.ok hr (by rfl) Gbound.m Gbound.kp Gbound.b pass0 (da_cons (dn_var (i := 3)) (da_cons (dn_var (i := 5)) da_nil))) (dg_tup rfl (dg_cons (dg_name (i := 6) sc_bases.nd) (dg_cons (dg_name (i := 7) sc_bases.nd) dg_nil))))
      (ds_cons (ds_if (dt_chain is_b20 is_b20 op_le op_le (dn_var (i := 6)) dn_int (dn_var (i := 7)))
        (ds_one (ds_ret dn_non))
        ds_nil)
      (ds_one (ds_if (dt_gt (dn_var (i := 6)) dn_int)
        (ds_cons (ds_asg (dn_call G_root.ok hr (by rfl) G_root.m G_root.kp G_root.b pass0 (da_cons (dn_tup (da_cons (dn_var (i := 6)) (da_cons (dn_var (i := 7)) da_nil))) (da_cons (dn_var (i := 1)) da_nil))) (dg_tup rfl (dg_cons (dg_name (i := 8) sc_bases.nd) (dg_cons (dg_name (i := 9) sc_bases.nd) dg_nil))))
        (ds_cons (ds_app (i := 4) (dn_add (dn_var (i := 5)) (dn_lc (own := [("part", 10)]) (by rfl) sc_bases.nd (di_seq (dn_var (i := 5))) (blkOk_by (own := [("part", 10)]) (N := N_bases) (sc := defScope s_bases) (by decide +kernel)) (fun _ _ _ _ _ => (dg_name (i := 10) sc_bases.nd)) (fun _ _ _ _ _ => dts_nil) (fun _ _ _ _ _ => (dn_call G_scaled.ok hr (by rfl) G_scaled.m G_scaled.kp G_scaled.b pass0 (da_cons (dn_var (i := 10)) (da_cons (dn_tup (da_cons (dn_var (i := 8)) (da_cons (dn_var (i := 9)) da_nil))) (da_cons (dn_var (i := 1)) da_nil))))))) (hps := fun h => ps_expr h) (hpe := fun h g => pe_bm PySem.F.plainAttrs_list PySem.F.slot_list_append PySem.F.type_list_append mt_append h g))
        (ds_one (ds_app (i := 4) (dn_add (dn_var (i := 5)) (dn_lc (own := [("part", 10)]) (by rfl) sc_bases.nd (di_seq (dn_var (i := 5))) (blkOk_by (own := [("part", 10)]) (N := N_bases) (sc := defScope s_bases) (by decide +kernel)) (fun _ _ _ _ _ => (dg_name (i := 10) sc_bases.nd)) (fun _ _ _ _ _ => dts_nil) (fun _ _ _ _ _ => (dn_call G_scaled.ok hr (by rfl) G_scaled.m G_scaled.kp G_scaled.b pass0 (da_cons (dn_var (i := 10)) (da_cons (dn_tup (da_cons (dn_neg (dn_var (i := 9))) (da_cons (dn_neg (dn_var (i := 8))) da_nil))) (da_cons (dn_var (i := 1)) da_nil))))))) (hps := fun h => ps_expr h) (hpe := fun h g => pe_bm PySem.F.plainAttrs_list PySem.F.slot_list_append PySem.F.type_list_append mt_append h g)))))
        ds_nil)))))
    (dss_frz (i := 4) (ds_one (ds_set (i := 2) sc_bases.nd (dn_var (i := 4))))))))
  (ds_one (ds_ret (dn_var (i := 2))))))
abbrev s_count_below_first : Stmt := topS 32
abbrev N_count_below_first : List Str := ["found", "first_low", "first_high", "count", "low", "high"]
theorem sc_count_below_first : FnScope N_count_below_first ["found"] (defScope s_count_below_first) := ⟨rfl, rfl, rfl, by decide +kernel, rfl, by decide +kernel, by decide +kernel⟩
def den_count_below_first : List Sl → Option Out :=
  (sSeq (sAsg (d2 fIx (dV 0) (dK (.int 0))) (gTu 2 (gcons (gN 1) (gcons (gN 2) gnil))))
  (sSeq (sSet 3 (dK (.int 0)))
  (sSeq (sFor (iSeq (dSl (dV 0) (p1 (dK (.int 1))) p0)) (gTu 2 (gcons (gN 4) (gcons (gN 5) gnil)))
    (sIf (dAsB (d2 fLtA (dV 5) (dV 1)))
      (sAug 3 (fun i j => i + j) (dK (.int 1)))
      (sIf (dAsB (d2 (fB20 fun i j => decide (i ≤ j)) (dV 4) (dV 2)))
        (sRet (dK .non))
        sNext)))
  (sRet (dV 3)))))
theorem ok_count_below_first {f : Addr} {fd : FuncData} {k : Nat} (F : Fun K "_count_below_first" "_count_below_first" s_count_below_first f fd) (M : Names mg) (Z : CtxN P w K mg S) (TNumber : ClsC K (S.cl 0) ["tower", "element"]) (TField : ClsC K (S.cl 1) ["tower", "known_roots"]) : FnOk P w K mg base CX0 (k + 1) f fd ["found"] (SpD S.cls (runD 1 6 (den_count_below_first))) :=
  fn_den F sc_count_below_first fun cdv A outer s H E hr => (ds_cons (ds_asg (dn_sub_ix (dn_var (i := 0)) dn_int (fun _ _ => rfl)) (dg_tup rfl (dg_cons (dg_name (i := 1) sc_count_below_first.nd) (dg_cons (dg_name (i := 2) sc_count_below_first.nd) dg_nil))))
  (ds_cons (ds_set (i := 3) sc_count_below_first.nd dn_int)
  (ds_cons (ds_for PassesOwn.never rfl (di_seq (dn_slice (dn_var (i := 0)) (dp_some dn_int) dp_none)) (dg_tup rfl (dg_cons (dg_name (i := 4) sc_count_below_first.nd) (dg_cons (dg_name (i := 5) sc_count_below_first.nd) dg_nil)))
    (ds_one (ds_if (dt_ltA hr.units0 (dn_var (i := 5)) (dn_var (i := 1)))
      (ds_one (ds_aug (i := 3) sc_count_below_first.nd dn_int ip_add))
      (ds_one (ds_if (dt_le (dn_var (i := 4)) (dn_var (i := 2)))
        (ds_one (ds_ret dn_non))
        ds_nil)))))
  (ds_one (ds_ret (dn_var (i := 3)))))))
abbrev splace_of : Stmt := topS 33
abbrev Nplace_of : List Str := ["tower", "vector", "bits", "found", "count", "one"]
theorem scplace_of : FnScope Nplace_of ["tower", "vector"] (defScope splace_of) := ⟨rfl, rfl, rfl, by decide +kernel, rfl, by decide +kernel, by decide +kernel⟩
def denplace_of (c_bases : List D → Option D) (cbound : List D → Option D) (c_count_below_first : List D → Option D) : List Sl → Option Out :=
  (sSeq (sSet 2 (dK (.int (64))))
  (whileD (dTru (dK (.bl true)))
    (sSeq (sSet 3 (dCall c_bases (ac (dV 0) (ac (dV 2) a0))))
    (sSeq (sSet 4 (dK .non))
    (sSeq (sIf (dAsB (d2 fNotN (dV 3) (dK .non)))
      (sSet 4 (dCall c_count_below_first (ac (dLc (iSeq (dV 3)) (gN 5) bYes (dCall cbound (ac (dV 1) (ac (dV 5) a0))) [5]) a0)))
      sNext)
    (sSeq (sIf (dAsB (d2 fNotN (dV 4) (dK .non)))
      (sRet (dV 4))
      sNext)
    (sSet 2 (d2 fMul (dK (.int 2)) (dV 2))))))) 8))
theorem okplace_of {f : Addr} {fd : FuncData} {k : Nat} (F : Fun K "place_of" "place_of" splace_of f fd) (M : Names mg) (Z : CtxN P w K mg S) (TNumber : ClsC K (S.cl 0) ["tower", "element"]) (TField : ClsC K (S.cl 1) ["tower", "known_roots"]) {c_bases : List D → Option D} {cbound : List D → Option D} {c_count_below_first : List D → Option D} (G_bases : Cal P w K mg base k "_bases" ["tower", "bits"] (SpD S.cls c_bases)) (Gbound : Cal P w K mg base k "bound" ["vector", "basis"] (SpD S.cls cbound)) (G_count_below_first : Cal P w K mg base k "_count_below_first" ["found"] (SpD S.cls c_count_below_first)) : FnOk P w K mg base CX0 (k + 1) f fd ["tower", "vector"] (SpD S.cls (runD 2 6 (denplace_of c_bases cbound c_count_below_first))) :=
  fn_den F scplace_of fun cdv A outer s H E hr => (ds_cons (ds_set (i := 2) scplace_of.nd (dn_globI (by rfl) M.FIRST_BITS))
  (ds_one (ds_while 8 PassesOwn.never (dt_truth dn_bl)
    (ds_cons (ds_set (i := 3) scplace_of.nd (dn_call G_bases.ok hr (by rfl) G_bases.m G_bases.kp G_bases.b pass0 (da_cons (dn_var (i := 0)) (da_cons (dn_var (i := 2)) da_nil))))
    (ds_cons (ds_set (i := 4) scplace_of.nd dn_non)
    (ds_cons (ds_if (dt_notN (dn_var (i := 3)))
      (ds_one (ds_set (i := 4) scplace_of.nd (dn_call G_count_below_first.ok hr (by rfl) G_count_below_first.m G_count_below_first.kp G_count_below_first.b pass0 (da_cons (dn_lc (own := [("one", 5)]) (by rfl) scplace_of.nd (di_seq (dn_var (i := 3))) (blkOk_by (own := [("one", 5)]) (N := Nplace_of) (sc := defScope splace_of) (by decide +kernel)) (fun _ _ _ _ _ => (dg_name (i := 5) scplace_of.nd)) (fun _ _ _ _ _ => dts_nil) (fun _ _ _ _ _ => (dn_call Gbound.ok hr (by rfl) Gbound.m Gbound.kp Gbound.b pass0 (da_cons (dn_var (i := 1)) (da_cons (dn_var (i := 5)) da_nil))))) da_nil))))
      ds_nil)
    (ds_cons (ds_if (dt_notN (dn_var (i := 4)))
      (ds_one (ds_ret (dn_var (i := 4))))
      ds_nil)
    (ds_one (ds_set (i := 2) scplace_of.nd (dn_mul dn_int (dn_var (i := 2))))))))))))
end
end KW

set_option maxHeartbeats 4000000
namespace KW
open PySem PySem.Spec PyProof.Rows L2 KG DN
section
variable {P : Program} {w : World} {K : PySem.W.Frag} {mg : Str → Option Value} {base : Heap} {S : CS}
abbrev swidened : Stmt := topS 45
abbrev Nwidened : List Str := ["element", "size"]
theorem scwidened : FnScope Nwidened ["element", "size"] (defScope swidened) := ⟨rfl, rfl, rfl, by decide +kernel, rfl, by decide +kernel, by decide +kernel⟩
def denwidened (cpadded : List D → Option D) : List Sl → Option Out :=
  (sRet (dTup (ac (dCall cpadded (ac (d2 fIx (dV 0) (dK (.int 0))) (ac (dV 1) a0))) (ac (d2 fIx (dV 0) (dK (.int 1))) a0))))
theorem okwidened {f : Addr} {fd : FuncData} {k : Nat} (F : Fun K "widened" "widened" swidened f fd) (M : Names mg) (Z : CtxN P w K mg S) (TNumber : ClsC K (S.cl 0) ["tower", "element"]) (TField : ClsC K (S.cl 1) ["tower", "known_roots"]) {cpadded : List D → Option D} (Gpadded : Cal P w K mg base k "padded" ["vector", "size"] (SpD S.cls cpadded)) : FnOk P w K mg base CX0 (k + 1) f fd ["element", "size"] (SpD S.cls (runD 2 2 (denwidened cpadded))) :=
  fn_den F scwidened fun cdv A outer s H E hr => (ds_one (ds_ret (dn_tup (da_cons (dn_call Gpadded.ok hr (by rfl) Gpadded.m Gpadded.kp Gpadded.b pass0 (da_cons (dn_sub_ix (dn_var (i := 0)) dn_int (fun _ _ => rfl)) (da_cons (dn_var (i := 1)) da_nil))) (da_cons (dn_sub_ix (dn_var (i := 0)) dn_int (fun _ _ => rfl)) da_nil)))))
abbrev simage : Stmt := topS 46
abbrev Nimage : List Str := ["tower", "images", "vector", "size", "half", "low", "high", "root"]
theorem scimage : FnScope Nimage ["tower", "images", "vector"] (defScope simage) := ⟨rfl, rfl, rfl, by decide +kernel, rfl, by decide +kernel, by decide +kernel⟩
def denimage (cpadded : List D → Option D) (cimage : List D → Option D) (cwidened : List D → Option D) (celement_product : List D → Option D) (celement_sum : List D → Option D) : List Sl → Option Out :=
  (sSeq (sSet 3 (d2 fShl (dK (.int 1)) (dCall fLen (ac (dV 0) a0))))
  (sSeq (sSet 4 (d2 fDiv (dCall fLen (ac (dV 2) a0)) (dK (.int 2))))
  (sSeq (sIf (dAsB (d2 fEq (dV 4) (dK (.int 0))))
    (sRet (dTup (ac (dCall cpadded (ac (dV 2) (ac (dV 3) a0))) (ac (dK (.int 1)) a0))))
    sNext)
  (sSeq (sSet 5 (dCall cimage (ac (dV 0) (ac (dV 1) (ac (dSl (dV 2) p0 (p1 (dV 4))) a0)))))
  (sSeq (sIf (bNot (dTru (dCall fAny (ac (dSl (dV 2) (p1 (dV 4)) p0) a0))))
    (sRet (dV 5))
    sNext)
  (sSeq (sSet 6 (dCall cimage (ac (dV 0) (ac (dV 1) (ac (dSl (dV 2) (p1 (dV 4)) p0) a0)))))
  (sSeq (sSet 7 (dCall cwidened (ac (d2 fIx (dV 1) (d2 fSub (d1 fBits (dV 4)) (dK (.int 1)))) (ac (dV 3) a0))))
  (sRet (dCall celement_sum (ac (dV 5) (ac (dCall celement_product (ac (dV 0) (ac (dV 6) (ac (dV 7) a0)))) a0)))))))))))
theorem okimage {f : Addr} {fd : FuncData} {k : Nat} (F : Fun K "image" "image" simage f fd) (M : Names mg) (Z : CtxN P w K mg S) (TNumber : ClsC K (S.cl 0) ["tower", "element"]) (TField : ClsC K (S.cl 1) ["tower", "known_roots"]) {cpadded : List D → Option D} {cimage : List D → Option D} {cwidened : List D → Option D} {celement_product : List D → Option D} {celement_sum : List D → Option D} (Gpadded : Cal P w K mg base k "padded" ["vector", "size"] (SpD S.cls cpadded)) (Gimage : Cal P w K mg base k "image" ["tower", "images", "vector"] (SpD S.cls cimage)) (Gwidened : Cal P w K mg base k "widened" ["element", "size"] (SpD S.cls cwidened)) (Gelement_product : Cal P w K mg base k "element_product" ["tower", "one", "other"] (SpD S.cls celement_product)) (Gelement_sum : Cal P w K mg base k "element_sum" ["one", "other"] (SpD S.cls celement_sum)) : FnOk P w K mg base CX0 (k + 1) f fd ["tower", "images", "vector"] (SpD S.cls (runD 3 8 (denimage cpadded cimage cwidened celement_product celement_sum))) :=
  fn_den F scimage fun cdv A outer s H E hr => (ds_cons (ds_set (i := 3) scimage.nd (dn_shl dn_int (dn_callB is_len call_len_seq (by rfl) M.len PySem.boot_len (da_cons (dn_var (i := 0)) da_nil))))
  (ds_cons (ds_set (i := 4) scimage.nd (dn_div (dn_callB is_len call_len_seq (by rfl) M.len PySem.boot_len (da_cons (dn_var (i := 2)) da_nil)) dn_int))
  (ds_cons (ds_if (dt_eq hr.units (dn_var (i := 4)) dn_int)
    (ds_one (ds_ret (dn_tup (da_cons (dn_call Gpadded.ok hr (by rfl) Gpadded.m Gpadded.kp Gpadded.b pass0 (da_cons (dn_var (i := 2)) (da_cons (dn_var (i := 3)) da_nil))) (da_cons dn_int da_nil)))))
    ds_nil)
  (ds_cons (ds_set (i := 5) scimage.nd (dn_call Gimage.ok hr (by rfl) Gimage.m Gimage.kp Gimage.b pass0 (da_cons (dn_var (i := 0)) (da_cons (dn_var (i := 1)) (da_cons (dn_slice (dn_var (i := 2)) dp_none (dp_some (dn_var (i := 4)))) da_nil)))))
  (ds_cons (ds_if (dt_not (dt_truth (dn_callB (is_any (K := K)) (cr_anyA rfl) (by rfl) M.any (by decide +kernel) (da_cons (dn_slice (dn_var (i := 2)) (dp_some (dn_var (i := 4))) dp_none) da_nil))))
    (ds_one (ds_ret (dn_var (i := 5))))
    ds_nil)
  (ds_cons (ds_set (i := 6) scimage.nd (dn_call Gimage.ok hr (by rfl) Gimage.m Gimage.kp Gimage.b pass0 (da_cons (dn_var (i := 0)) (da_cons (dn_var (i := 1)) (da_cons (dn_slice (dn_var (i := 2)) (dp_some (dn_var (i := 4))) dp_none) da_nil)))))
  (ds_cons (ds_set (i := 7) scimage.nd (dn_call Gwidened.ok hr (by rfl) Gwidened.m Gwidened.kp Gwidened.b pass0 (da_cons (dn_sub_ix (dn_var (i := 1)) (dn_sub (dn_bits (dn_var (i := 4))) dn_int) (fun _ _ => rfl)) (da_cons (dn_var (i := 3)) da_nil))))
  (ds_one (ds_ret (dn_call Gelement_sum.ok hr (by rfl) Gelement_sum.m Gelement_sum.kp Gelement_sum.b pass0 (da_cons (dn_var (i := 5)) (da_cons (dn_call Gelement_product.ok hr (by rfl) Gelement_product.m Gelement_product.kp Gelement_product.b pass0 (da_cons (dn_var (i := 0)) (da_cons (dn_var (i := 6)) (da_cons (dn_var (i := 7)) da_nil)))) da_nil))))))))))))
abbrev simage_of_element : Stmt := topS 47
abbrev Nimage_of_element : List Str := ["tower", "images", "element", "vector", "scale"]
theorem scimage_of_element : FnScope Nimage_of_element ["tower", "images", "element"] (defScope simage_of_element) := ⟨rfl, rfl, rfl, by decide +kernel, rfl, by decide +kernel, by decide +kernel⟩
def denimage_of_element (cimage : List D → Option D) (clowest : List D → Option D) : List Sl → Option Out :=
  (sSeq (sAsg (dCall cimage (ac (dV 0) (ac (dV 1) (ac (d2 fIx (dV 2) (dK (.int 0))) a0)))) (gTu 2 (gcons (gN 3) (gcons (gN 4) gnil))))
  (sRet (dCall clowest (ac (dV 3) (ac (d2 fMul (dV 4) (d2 fIx (dV 2) (dK (.int 1)))) a0)))))
theorem okimage_of_element {f : Addr} {fd : FuncData} {k : Nat} (F : Fun K "image_of_element" "image_of_element" simage_of_element f fd) (M : Names mg) (Z : CtxN P w K mg S) (TNumber : ClsC K (S.cl 0) ["tower", "element"]) (TField : ClsC K (S.cl 1) ["tower", "known_roots"]) {cimage : List D → Option D} {clowest : List D → Option D} (Gimage : Cal P w K mg base k "image" ["tower", "images", "vector"] (SpD S.cls cimage)) (Glowest : Cal P w K mg base k "lowest" ["vector", "scale"] (SpD S.cls clowest)) : FnOk P w K mg base CX0 (k + 1) f fd ["tower", "images", "element"] (SpD S.cls (runD 3 5 (denimage_of_element cimage clowest))) :=
  fn_den F scimage_of_element fun cdv A outer s H E hr => (ds_cons (ds_asg (dn_call Gimage.ok hr (by rfl) Gimage.m Gimage.kp Gimage.b pass0 (da_cons (dn_var (i := 0)) (da_cons (dn_var (i := 1)) (da_cons (dn_sub_ix (dn_var (i := 2)) dn_int (fun _ _ => rfl)) da_nil)))) (dg_tup rfl (dg_cons (dg_name (i := 3) scimage_of_element.nd) (dg_cons (dg_name (i := 4) scimage_of_element.nd) dg_nil))))
  (ds_one (ds_ret (dn_call Glowest.ok hr (by rfl) Glowest.m Glowest.kp Glowest.b pass0 (da_cons (dn_var (i := 3)) (da_cons (dn_mul (dn_var (i := 4)) (dn_sub_ix (dn_var (i := 2)) dn_int (fun _ _ => rfl))) da_nil))))))
abbrev sjoined : Stmt := topS 48
abbrev Njoined : List Str := ["tower", "other", "most", "images", "generator", "square", "root"]
theorem scjoined : FnScope Njoined ["tower", "other", "most"] (defScope sjoined) := ⟨rfl, rfl, rfl, by decide +kernel, rfl, by decide +kernel, by decide +kernel⟩
def denjoined (cimage : List D → Option D) : List Sl → Option Out :=
  (sSeq (sNew 3 a0)
  (sSeq (sFor (iSeq (dV 1)) (gN 4)
    (sSeq (sSet 5 (dBor 3 (dCall cimage (ac (dV 0) (ac (dV 3) (ac (dV 4) a0))))))
    (sSeq (sSet 6 dNev)
    (sSeq (sIf (bAnd (dAsB (d2 fIsN (dV 6) (dK .non))) (dAsB (d2 (fB20 fun i j => decide (j ≤ i)) (dCall fLen (ac (dV 0) a0)) (dV 2))))
      (sRet (dK .non))
      sNext)
    (sSeq (sIf (dAsB (d2 fIsN (dV 6) (dK .non)))
      (sAsg dNev (gTu 2 (gcons (gN 0) (gcons (gN 6) gnil))))
      sNext)
    (sApp 3 (dV 6)))))))
  (sFrz 3 (sRet (dTup (ac (dV 0) (ac (dV 3) a0)))))))
theorem okjoined {f : Addr} {fd : FuncData} {k : Nat} (F : Fun K "joined" "joined" sjoined f fd) (M : Names mg) (Z : CtxN P w K mg S) (TNumber : ClsC K (S.cl 0) ["tower", "element"]) (TField : ClsC K (S.cl 1) ["tower", "known_roots"]) {cimage : List D → Option D} (Gimage : Cal P w K mg base k "image" ["tower", "images", "vector"] (SpD S.cls cimage)) : FnOk P w K mg base CX0 (k + 1) f fd ["tower", "other", "most"] (SpD S.cls (runD 3 7 (denjoined cimage))) :=
  fn_den F scjoined fun cdv A outer s H E hr => (ds_cons (ds_new (i := 3) scjoined.nd da_nil)
  (ds_cons (ds_for PassesOwn.never rfl (di_seq (dn_var (i := 1))) (dg_name (i := 4) scjoined.nd)
    (ds_cons (ds_set (i := 5) scjoined.nd (dn_bor (i := 3) (dn_call Gimage.ok hr (by rfl) Gimage.m Gimage.kp Gimage.b pass0 (da_cons (dn_var (i := 0)) (da_cons (dn_var (i := 3)) (da_cons (dn_var (i := 4)) da_nil))))))
    (ds_cons (ds_set (i := 6) scjoined.nd dn_nev)
    (ds_cons (ds_if (PW.pt (dw_and (dt_isN (dn_var (i := 6))) (dw_and1 (dt_ge (dn_callB is_len call_len_seq (by rfl) M.len PySem.boot_len (da_cons (dn_var (i := 0)) da_nil)) (dn_var (i := 2))))))
      (ds_one (ds_ret dn_non))
      ds_nil)
    (ds_cons (ds_if (dt_isN (dn_var (i := 6)))
      (ds_one (ds_asg dn_nev (dg_tup rfl (dg_cons (dg_name (i := 0) scjoined.nd) (dg_cons (dg_name (i := 6) scjoined.nd) dg_nil)))))
      ds_nil)
    (ds_one (ds_app (i := 3) (dn_var (i := 6)) (hps := fun h => ps_expr h) (hpe := fun h g => pe_bm PySem.F.plainAttrs_list PySem.F.slot_list_append PySem.F.type_list_append mt_append h g))))))))
  (dss_frz (i := 3) (ds_one (ds_ret (dn_tup (da_cons (dn_var (i := 0)) (da_cons (dn_var (i := 3)) da_nil))))))))
abbrev sprimitive : Stmt := topS 56
abbrev Nprimitive : List Str := ["polynomial", "common", "n"]
theorem scprimitive : FnScope Nprimitive ["polynomial"] (defScope sprimitive) := ⟨rfl, rfl, rfl, by decide +kernel, rfl, by decide +kernel, by decide +kernel⟩
def denprimitive : List Sl → Option Out :=
  (sSeq (sSet 1 (dK (.int 0)))
  (sSeq (sFor (iSeq (dV 0)) (gN 2)
    (sSet 1 (dCall fGcd (ac (dV 1) (ac (dV 2) a0)))))
  (sSeq (sIf (dAsB (d2 fLtA (d2 fIx (dV 0) (d1 (fI1 fun i => -i) (dK (.int 1)))) (dK (.int 0))))
    (sSet 1 (d1 (fI1 fun i => -i) (dV 1)))
    sNext)
  (sRet (dCall fTuple (ac (dLc (iSeq (dV 0)) (gN 2) bYes (d2 fDiv (dV 2) (dV 1)) [2]) a0))))))
theorem okprimitive {f : Addr} {fd : FuncData} {k : Nat} (F : Fun K "primitive" "primitive" sprimitive f fd) (M : Names mg) (Z : CtxN P w K mg S) (TNumber : ClsC K (S.cl 0) ["tower", "element"]) (TField : ClsC K (S.cl 1) ["tower", "known_roots"]) : FnOk P w K mg base CX0 (k + 1) f fd ["polynomial"] (SpD S.cls (runD 1 3 (denprimitive))) :=
  fn_den F scprimitive fun cdv A outer s H E hr => (ds_cons (ds_set (i := 1) scprimitive.nd dn_int)
  (ds_cons (ds_for PassesOwn.never rfl (di_seq (dn_var (i := 0))) (dg_name (i := 2) scprimitive.nd)
    (ds_one (ds_set (i := 1) scprimitive.nd (dn_callBfun is_gcd cr_gcd (by rfl) M.gcd (da_cons (dn_var (i := 1)) (da_cons (dn_var (i := 2)) da_nil))))))
  (ds_cons (ds_if (dt_ltA hr.units0 (dn_sub_ix (dn_var (i := 0)) (dn_neg dn_int) (fun _ _ => rfl)) dn_int)
    (ds_one (ds_set (i := 1) scprimitive.nd (dn_neg (dn_var (i := 1)))))
    ds_nil)
  (ds_one (ds_ret (dn_callTy (is_tuple (K := K)) call_tuple_of (by rfl) M.tuple (by decide +kernel) (da_cons (dn_lc (own := [("n", 2)]) (by rfl) scprimitive.nd (di_seq (dn_var (i := 0))) (blkOk_by (own := [("n", 2)]) (N := Nprimitive) (sc := defScope sprimitive) (by decide +kernel)) (fun _ _ _ _ _ => (dg_name (i := 2) scprimitive.nd)) (fun _ _ _ _ _ => dts_nil) (fun _ _ _ _ _ => (dn_div (dn_var (i := 2)) (dn_var (i := 1))))) da_nil)))))))
abbrev scharacteristic : Stmt := topS 59
abbrev Ncharacteristic : List Str := ["tower", "vector", "base", "terms", "generator", "half", "lows", "highs", "term", "low", "high"]
theorem sccharacteristic : FnScope Ncharacteristic ["tower", "vector", "base"] (defScope scharacteristic) := ⟨rfl, rfl, rfl, by decide +kernel, rfl, by decide +kernel, by decide +kernel⟩
def dencharacteristic (cpadded : List D → Option D) (ctimes : List D → Option D) (cminus : List D → Option D) : List Sl → Option Out :=
  (sSeq (sSet 3 (dLst (ac (dCall ctimes (ac (dV 1) (ac (d1 (fI1 fun i => -i) (dK (.int 1))) a0))) (ac (dCall cpadded (ac (dTup (ac (dK (.int 1)) a0)) (ac (dCall fLen (ac (dV 1) a0)) a0))) a0))))
  (sSeq (sFor (iRevD (dSl (dV 0) (p1 (dV 2)) p0)) (gN 4)
    (sSeq (sSet 5 (dCall fLen (ac (dV 4) a0)))
    (sSeq (sSet 6 dNev)
    (sSeq (sSet 7 dNev)
    (sSet 3 (dLc (iZipD (ac (dV 6) (ac (dV 7) a0))) (gTu 2 (gcons (gN 9) (gcons (gN 10) gnil))) bYes (dCall cminus (ac (dV 9) (ac dNev a0))) [9, 10]))))))
  (sRet (dV 3))))
theorem okcharacteristic {f : Addr} {fd : FuncData} {k : Nat} (F : Fun K "characteristic" "characteristic" scharacteristic f fd) (M : Names mg) (Z : CtxN P w K mg S) (TNumber : ClsC K (S.cl 0) ["tower", "element"]) (TField : ClsC K (S.cl 1) ["tower", "known_roots"]) {cpadded : List D → Option D} {ctimes : List D → Option D} {cminus : List D → Option D} (Gpadded : Cal P w K mg base k "padded" ["vector", "size"] (SpD S.cls cpadded)) (Gtimes : Cal P w K mg base k "times" ["vector", "factor"] (SpD S.cls ctimes)) (Gminus : Cal P w K mg base k "minus" ["one", "other"] (SpD S.cls cminus)) : FnOk P w K mg base CX0 (k + 1) f fd ["tower", "vector", "base"] (SpD S.cls (runD 3 11 (dencharacteristic cpadded ctimes cminus))) :=
  fn_den F sccharacteristic fun cdv A outer s H E hr => (ds_cons (ds_set (i := 3) sccharacteristic.nd (dn_lst (da_cons (dn_call Gtimes.ok hr (by rfl) Gtimes.m Gtimes.kp Gtimes.b pass0 (da_cons (dn_var (i := 1)) (da_cons (dn_neg dn_int) da_nil))) (da_cons (dn_call Gpadded.ok hr (by rfl) Gpadded.m Gpadded.kp Gpadded.b pass0 (da_cons (dn_tup (da_cons dn_int da_nil)) (da_cons (dn_callB is_len call_len_seq (by rfl) M.len PySem.boot_len (da_cons (dn_var (i := 1)) da_nil)) da_nil))) da_nil))))
  (ds_cons (ds_for PassesOwn.never rfl (di_rev (by rfl) M.reversed (dn_slice (dn_var (i := 0)) (dp_some (dn_var (i := 2))) dp_none)) (dg_name (i := 4) sccharacteristic.nd)
    (ds_cons (ds_set (i := 5) sccharacteristic.nd (dn_callB is_len call_len_seq (by rfl) M.len PySem.boot_len (da_cons (dn_var (i := 4)) da_nil)))
    (ds_cons (ds_set (i := 6) sccharacteristic.nd dn_nev)
    (ds_cons (ds_set (i := 7) sccharacteristic.nd dn_nev)
    (ds_one (ds_setLc (own := [("low", 9), ("high", 10)]) (i := 3) (by rfl) sccharacteristic.nd rfl rfl (sw_true rfl rfl rfl (by decide +kernel)) (di_zip (by rfl) M.zip (da_cons (dn_var (i := 6)) (da_cons (dn_var (i := 7)) da_nil))) (blkOk_by (own := [("low", 9), ("high", 10)]) (N := Ncharacteristic) (sc := defScope scharacteristic) (by decide +kernel)) (fun _ _ _ _ _ => (dg_tup rfl (dg_cons (dg_name (i := 9) sccharacteristic.nd) (dg_cons (dg_name (i := 10) sccharacteristic.nd) dg_nil)))) (fun _ _ _ _ _ => dts_nil) (fun _ _ _ _ _ => (dn_call Gminus.ok hr (by rfl) Gminus.m Gminus.kp Gminus.b pass0 (da_cons (dn_var (i := 9)) (da_cons dn_nev da_nil))))))))))
  (ds_one (ds_ret (dn_var (i := 3))))))
abbrev s_polynomial_root : Stmt := topS 61
abbrev N_polynomial_root : List Str := ["tower", "terms", "count", "falling", "k", "rest", "i"]
theorem sc_polynomial_root : FnScope N_polynomial_root ["tower", "terms"] (defScope s_polynomial_root) := ⟨rfl, rfl, rfl, by decide +kernel, rfl, by decide +kernel, by decide +kernel⟩
def den_polynomial_root (celement_product : List D → Option D) (celement_difference : List D → Option D) (clowest : List D → Option D) : List Sl → Option Out :=
  (sSeq (sSet 2 (dCall fLen (ac (dV 1) a0)))
  (sSeq (sIf (dAsB (d2 fEq (d2 fMod (dV 2) (dK (.int 2))) (dK (.int 0))))
    (sRet (dK .non))
    sNext)
  (sSeq (sNew 3 (ac (d2 fIx (dV 1) (d1 (fI1 fun i => -i) (dK (.int 1)))) a0))
  (sSeq (sFor (iRng r2D (ac (dK (.int 1)) (ac (dV 2) a0))) (gN 4)
    (sSeq (sSet 5 (d2 fIx (dV 1) (d2 fSub (d2 fSub (dV 2) (dK (.int 1))) (dV 4))))
    (sSeq (sFor (iRng r2D (ac (dK (.int 1)) (ac (dCall fMin (ac (dV 4) (ac (dLenO 3) a0))) a0))) (gN 6)
      (sIf (dAsB (d2 fLtA (d2 fSub (dV 4) (dV 6)) (dLenO 3)))
        (sSet 5 (dCall celement_difference (ac (dV 5) (ac (dCall celement_product (ac (dV 0) (ac (dIxO 3 (dV 6)) (ac (dIxO 3 (d2 fSub (dV 4) (dV 6))) a0)))) a0))))
        sNext))
    (sIf (dAsB (d2 (fB20 fun i j => decide (i ≤ j)) (dV 4) (d2 fDiv (dV 2) (dK (.int 2)))))
      (sApp 3 (dCall clowest (ac (d2 fIx (dV 5) (dK (.int 0))) (ac (d2 fMul (dK (.int 2)) (d2 fIx (dV 5) (dK (.int 1)))) a0))))
      (sIf (dTru (dCall fAny (ac (d2 fIx (dV 5) (dK (.int 0))) a0)))
        (sRet (dK .non))
        sNext)))))
  (sFrz 3 (sRet (d1 fBack (dV 3))))))))
theorem ok_polynomial_root {f : Addr} {fd : FuncData} {k : Nat} (F : Fun K "_polynomial_root" "_polynomial_root" s_polynomial_root f fd) (M : Names mg) (Z : CtxN P w K mg S) (TNumber : ClsC K (S.cl 0) ["tower", "element"]) (TField : ClsC K (S.cl 1) ["tower", "known_roots"]) {celement_product : List D → Option D} {celement_difference : List D → Option D} {clowest : List D → Option D} (Gelement_product : Cal P w K mg base k "element_product" ["tower", "one", "other"] (SpD S.cls celement_product)) (Gelement_difference : Cal P w K mg base k "element_difference" ["one", "other"] (SpD S.cls celement_difference)) (Glowest : Cal P w K mg base k "lowest" ["vector", "scale"] (SpD S.cls clowest)) : FnOk P w K mg base CX0 (k + 1) f fd ["tower", "terms"] (SpD S.cls (runD 2 7 (den_polynomial_root celement_product celement_difference clowest))) :=
  fn_den F sc_polynomial_root fun cdv A outer s H E hr => (ds_cons (ds_set (i := 2) sc_polynomial_root.nd (dn_callB is_len call_len_seq (by rfl) M.len PySem.boot_len (da_cons (dn_var (i := 1)) da_nil)))
  (ds_cons (ds_if (dt_eq hr.units (dn_mod (dn_var (i := 2)) dn_int) dn_int)
    (ds_one (ds_ret dn_non))
    ds_nil)
  (ds_cons (ds_new (i := 3) sc_polynomial_root.nd (da_cons (dn_sub_ix (dn_var (i := 1)) (dn_neg dn_int) (fun _ _ => rfl)) da_nil))
  (ds_cons (ds_for PassesOwn.never rfl (di_range2 (by rfl) M.range (da_cons dn_int (da_cons (dn_var (i := 2)) da_nil))) (dg_name (i := 4) sc_polynomial_root.nd)
    (ds_cons (ds_set (i := 5) sc_polynomial_root.nd (dn_sub_ix (dn_var (i := 1)) (dn_sub (dn_sub (dn_var (i := 2)) dn_int) (dn_var (i := 4))) (fun _ _ => rfl)))
    (ds_cons (ds_for PassesOwn.never rfl (di_range2 (by rfl) M.range (da_cons dn_int (da_cons (dn_callB (is_min (K := K)) ((call_min2 rfl).or (cr_min rfl)) (by rfl) M.min (by decide +kernel) (da_cons (dn_var (i := 4)) (da_cons (dn_lenO (i := 3) (by rfl) M.len) da_nil))) da_nil))) (dg_name (i := 6) sc_polynomial_root.nd)
      (ds_one (ds_if (dt_ltA hr.units0 (dn_sub (dn_var (i := 4)) (dn_var (i := 6))) (dn_lenO (i := 3) (by rfl) M.len))
        (ds_one (ds_set (i := 5) sc_polynomial_root.nd (dn_call Gelement_difference.ok hr (by rfl) Gelement_difference.m Gelement_difference.kp Gelement_difference.b pass0 (da_cons (dn_var (i := 5)) (da_cons (dn_call Gelement_product.ok hr (by rfl) Gelement_product.m Gelement_product.kp Gelement_product.b pass0 (da_cons (dn_var (i := 0)) (da_cons (dn_ixO (i := 3) (dn_var (i := 6)) (fun _ _ => rfl)) (da_cons (dn_ixO (i := 3) (dn_sub (dn_var (i := 4)) (dn_var (i := 6))) (fun _ _ => rfl)) da_nil)))) da_nil)))))
        ds_nil)))
    (ds_one (ds_if (dt_le (dn_var (i := 4)) (dn_div (dn_var (i := 2)) dn_int))
      (ds_one (ds_app (i := 3) (dn_call Glowest.ok hr (by rfl) Glowest.m Glowest.kp Glowest.b pass0 (da_cons (dn_sub_ix (dn_var (i := 5)) dn_int (fun _ _ => rfl)) (da_cons (dn_mul dn_int (dn_sub_ix (dn_var (i := 5)) dn_int (fun _ _ => rfl))) da_nil))) (hps := fun h => ps_expr h) (hpe := fun h g => pe_bm PySem.F.plainAttrs_list PySem.F.slot_list_append PySem.F.type_list_append mt_append h g)))
      (ds_one (ds_if (dt_truth (dn_callB (is_any (K := K)) (cr_anyA rfl) (by rfl) M.any (by decide +kernel) (da_cons (dn_sub_ix (dn_var (i := 5)) dn_int (fun _ _ => rfl)) da_nil)))
        (ds_one (ds_ret dn_non))
        ds_nil)))))))
  (dss_frz (i := 3) (ds_one (ds_ret (dn_back (dn_var (i := 3))))))))))
abbrev s_least_terms : Stmt := topS 62
abbrev N_least_terms : List Str := ["tower", "vector", "base", "terms", "root", "term"]
theorem sc_least_terms : FnScope N_least_terms ["tower", "vector", "base"] (defScope s_least_terms) := ⟨rfl, rfl, rfl, by decide +kernel, rfl, by decide +kernel, by decide +kernel⟩
def den_least_terms (ccharacteristic : List D → Option D) (c_polynomial_root : List D → Option D) : List Sl → Option Out :=
  (sSeq (sSet 3 (dLc (iSeq (dCall ccharacteristic (ac (dV 0) (ac (dV 1) (ac (dV 2) a0))))) (gN 5) bYes (dTup (ac (dV 5) (ac (dK (.int 1)) a0))) [5]))
  (whileD (dTru (dK (.bl true)))
    (sSeq (sSet 4 (dCall c_polynomial_root (ac (dV 0) (ac (dV 3) a0))))
    (sSeq (sIf (dAsB (d2 fIsN (dV 4) (dK .non)))
      (sRet (dV 3))
      sNext)
    (sSet 3 (dV 4)))) 1000))
theorem ok_least_terms {f : Addr} {fd : FuncData} {k : Nat} (F : Fun K "_least_terms" "_least_terms" s_least_terms f fd) (M : Names mg) (Z : CtxN P w K mg S) (TNumber : ClsC K (S.cl 0) ["tower", "element"]) (TField : ClsC K (S.cl 1) ["tower", "known_roots"]) {ccharacteristic : List D → Option D} {c_polynomial_root : List D → Option D} (Gcharacteristic : Cal P w K mg base k "characteristic" ["tower", "vector", "base"] (SpD S.cls ccharacteristic)) (G_polynomial_root : Cal P w K mg base k "_polynomial_root" ["tower", "terms"] (SpD S.cls c_polynomial_root)) : FnOk P w K mg base CX0 (k + 1) f fd ["tower", "vector", "base"] (SpD S.cls (runD 3 6 (den_least_terms ccharacteristic c_polynomial_root))) :=
  fn_den F sc_least_terms fun cdv A outer s H E hr => (ds_cons (ds_setLc (own := [("term", 5)]) (i := 3) (by rfl) sc_least_terms.nd rfl rfl (sw_true rfl rfl rfl (by decide +kernel)) (di_seq (dn_call Gcharacteristic.ok hr (by rfl) Gcharacteristic.m Gcharacteristic.kp Gcharacteristic.b pass0 (da_cons (dn_var (i := 0)) (da_cons (dn_var (i := 1)) (da_cons (dn_var (i := 2)) da_nil))))) (blkOk_by (own := [("term", 5)]) (N := N_least_terms) (sc := defScope s_least_terms) (by decide +kernel)) (fun _ _ _ _ _ => (dg_name (i := 5) sc_least_terms.nd)) (fun _ _ _ _ _ => dts_nil) (fun _ _ _ _ _ => (dn_tup (da_cons (dn_var (i := 5)) (da_cons dn_int da_nil)))))
  (ds_one (ds_while 1000 PassesOwn.never (dt_truth dn_bl)
    (ds_cons (ds_set (i := 4) sc_least_terms.nd (dn_call G_polynomial_root.ok hr (by rfl) G_polynomial_root.m G_polynomial_root.kp G_polynomial_root.b pass0 (da_cons (dn_var (i := 0)) (da_cons (dn_var (i := 3)) da_nil))))
    (ds_cons (ds_if (dt_isN (dn_var (i := 4)))
      (ds_one (ds_ret (dn_var (i := 3))))
      ds_nil)
    (ds_one (ds_set (i := 3) sc_least_terms.nd (dn_var (i := 4)))))))))
abbrev s_degree : Stmt := topS 63
abbrev N_degree : List Str := ["tower", "element", "base"]
theorem sc_degree : FnScope N_degree ["tower", "element", "base"] (defScope s_degree) := ⟨rfl, rfl, rfl, by decide +kernel, rfl, by decide +kernel, by decide +kernel⟩
def den_degree (c_least_terms : List D → Option D) : List Sl → Option Out :=
  (sRet (d2 fSub (dCall fLen (ac (dCall c_least_terms (ac (dV 0) (ac (d2 fIx (dV 1) (dK (.int 0))) (ac (dV 2) a0)))) a0)) (dK (.int 1))))
theorem ok_degree {f : Addr} {fd : FuncData} {k : Nat} (F : Fun K "_degree" "_degree" s_degree f fd) (M : Names mg) (Z : CtxN P w K mg S) (TNumber : ClsC K (S.cl 0) ["tower", "element"]) (TField : ClsC K (S.cl 1) ["tower", "known_roots"]) {c_least_terms : List D → Option D} (G_least_terms : Cal P w K mg base k "_least_terms" ["tower", "vector", "base"] (SpD S.cls c_least_terms)) : FnOk P w K mg base CX0 (k + 1) f fd ["tower", "element", "base"] (SpD S.cls (runD 3 3 (den_degree c_least_terms))) :=
  fn_den F sc_degree fun cdv A outer s H E hr => (ds_one (ds_ret (dn_sub (dn_callB is_len call_len_seq (by rfl) M.len PySem.boot_len (da_cons (dn_call G_least_terms.ok hr (by rfl) G_least_terms.m G_least_terms.kp G_least_terms.b pass0 (da_cons (dn_var (i := 0)) (da_cons (dn_sub_ix (dn_var (i := 1)) dn_int (fun _ _ => rfl)) (da_cons (dn_var (i := 2)) da_nil)))) da_nil)) dn_int)))
abbrev sleast_polynomial : Stmt := topS 64
abbrev Nleast_polynomial : List Str := ["tower", "element", "vector", "scale", "terms", "power", "term", "_"]
theorem scleast_polynomial : FnScope Nleast_polynomial ["tower", "element"] (defScope sleast_polynomial) := ⟨rfl, rfl, rfl, by decide +kernel, rfl, by decide +kernel, by decide +kernel⟩
def denleast_polynomial (c_least_terms : List D → Option D) (cprimitive : List D → Option D) : List Sl → Option Out :=
  (sSeq (sAsg (dV 1) (gTu 2 (gcons (gN 2) (gcons (gN 3) gnil))))
  (sSeq (sNew 4 a0)
  (sSeq (sSet 5 (dK (.int 1)))
  (sSeq (sFor (iSeq (dCall c_least_terms (ac (dV 0) (ac (dV 2) (ac (dK (.int 0)) a0))))) (gTu 2 (gcons (gN 6) (gcons (gN 7) gnil)))
    (sSeq (sApp 4 (d2 fMul (d2 fIx (dV 6) (dK (.int 0))) (dV 5)))
    (sSet 5 (d2 fMul (dV 5) (dV 3)))))
  (sFrz 4 (sRet (dCall cprimitive (ac (dV 4) a0))))))))
theorem okleast_polynomial {f : Addr} {fd : FuncData} {k : Nat} (F : Fun K "least_polynomial" "least_polynomial" sleast_polynomial f fd) (M : Names mg) (Z : CtxN P w K mg S) (TNumber : ClsC K (S.cl 0) ["tower", "element"]) (TField : ClsC K (S.cl 1) ["tower", "known_roots"]) {c_least_terms : List D → Option D} {cprimitive : List D → Option D} (G_least_terms : Cal P w K mg base k "_least_terms" ["tower", "vector", "base"] (SpD S.cls c_least_terms)) (Gprimitive : Cal P w K mg base k "primitive" ["polynomial"] (SpD S.cls cprimitive)) : FnOk P w K mg base CX0 (k + 1) f fd ["tower", "element"] (SpD S.cls (runD 2 8 (denleast_polynomial c_least_terms cprimitive))) :=
  fn_den F scleast_polynomial fun cdv A outer s H E hr => (ds_cons (ds_asg (dn_var (i := 1)) (dg_tup rfl (dg_cons (dg_name (i := 2) scleast_polynomial.nd) (dg_cons (dg_name (i := 3) scleast_polynomial.nd) dg_nil))))
  (ds_cons (ds_new (i := 4) scleast_polynomial.nd da_nil)
  (ds_cons (ds_set (i := 5) scleast_polynomial.nd dn_int)
  (ds_cons (ds_for PassesOwn.never rfl (di_seq (dn_call G_least_terms.ok hr (by rfl) G_least_terms.m G_least_terms.kp G_least_terms.b pass0 (da_cons (dn_var (i := 0)) (da_cons (dn_var (i := 2)) (da_cons dn_int da_nil))))) (dg_tup rfl (dg_cons (dg_name (i := 6) scleast_polynomial.nd) (dg_cons (dg_name (i := 7) scleast_polynomial.nd) dg_nil)))
    (ds_cons (ds_app (i := 4) (dn_mul (dn_sub_ix (dn_var (i := 6)) dn_int (fun _ _ => rfl)) (dn_var (i := 5))) (hps := fun h => ps_expr h) (hpe := fun h g => pe_bm PySem.F.plainAttrs_list PySem.F.slot_list_append PySem.F.type_list_append mt_append h g))
    (ds_one (ds_set (i := 5) scleast_polynomial.nd (dn_mul (dn_var (i := 5)) (dn_var (i := 3)))))))
  (dss_frz (i := 4) (ds_one (ds_ret (dn_call Gprimitive.ok hr (by rfl) Gprimitive.m Gprimitive.kp Gprimitive.b pass0 (da_cons (dn_var (i := 4)) da_nil)))))))))
abbrev sleast_field : Stmt := topS 65
abbrev Nleast_field : List Str := ["tower", "element", "degree", "base"]
theorem scleast_field : FnScope Nleast_field ["tower", "element"] (defScope sleast_field) := ⟨rfl, rfl, rfl, by decide +kernel, rfl, by decide +kernel, by decide +kernel⟩
def denleast_field (c_degree : List D → Option D) : List Sl → Option Out :=
  (sSeq (sSet 2 (dCall c_degree (ac (dV 0) (ac (dV 1) (ac (dK (.int 0)) a0)))))
  (sSeq (sIf (dAsB (d2 fEq (dV 2) (d2 fShl (dK (.int 1)) (dCall fLen (ac (dV 0) a0)))))
    (sRet (dTup (ac (dV 0) (ac (dV 1) a0))))
    sNext)
  (sSeq (sSet 3 (dK (.int 0)))
  (sSeq (whileD (dAsB (d2 (fB20 fun i j => decide (j < i)) (dV 2) (dK (.int 1))))
    (sSeq (sAsg dNev (gTu 2 (gcons (gN 0) (gcons (gN 1) gnil))))
    (sSeq (sAug 3 (fun i j => i + j) (dK (.int 1)))
    (sSet 2 (d2 fDiv (dV 2) (dK (.int 2)))))) 1000)
  (sRet (dTup (ac (dSl (dV 0) p0 (p1 (dV 3))) (ac (dTup (ac (dSl (d2 fIx (dV 1) (dK (.int 0))) p0 (p1 (d2 fShl (dK (.int 1)) (dV 3)))) (ac (d2 fIx (dV 1) (dK (.int 1))) a0))) a0))))))))
theorem okleast_field {f : Addr} {fd : FuncData} {k : Nat} (F : Fun K "least_field" "least_field" sleast_field f fd) (M : Names mg) (Z : CtxN P w K mg S) (TNumber : ClsC K (S.cl 0) ["tower", "element"]) (TField : ClsC K (S.cl 1) ["tower", "known_roots"]) {c_degree : List D → Option D} (G_degree : Cal P w K mg base k "_degree" ["tower", "element", "base"] (SpD S.cls c_degree)) : FnOk P w K mg base CX0 (k + 1) f fd ["tower", "element"] (SpD S.cls (runD 2 4 (denleast_field c_degree))) :=
  fn_den F scleast_field fun cdv A outer s H E hr => (ds_cons (ds_set (i := 2) scleast_field.nd (dn_call G_degree.ok hr (by rfl) G_degree.m G_degree.kp G_degree.b pass0 (da_cons (dn_var (i := 0)) (da_cons (dn_var (i := 1)) (da_cons dn_int da_nil)))))
  (ds_cons (ds_if (dt_eq hr.units (dn_var (i := 2)) (dn_shl dn_int (dn_callB is_len call_len_seq (by rfl) M.len PySem.boot_len (da_cons (dn_var (i := 0)) da_nil))))
    (ds_one (ds_ret (dn_tup (da_cons (dn_var (i := 0)) (da_cons (dn_var (i := 1)) da_nil)))))
    ds_nil)
  (ds_cons (ds_set (i := 3) scleast_field.nd dn_int)
  (ds_cons (ds_while 1000 PassesOwn.never (dt_gt (dn_var (i := 2)) dn_int)
    (ds_cons (ds_asg dn_nev (dg_tup rfl (dg_cons (dg_name (i := 0) scleast_field.nd) (dg_cons (dg_name (i := 1) scleast_field.nd) dg_nil))))
    (ds_cons (ds_aug (i := 3) scleast_field.nd dn_int ip_add)
    (ds_one (ds_set (i := 2) scleast_field.nd (dn_div (dn_var (i := 2)) dn_int))))))
  (ds_one (ds_ret (dn_tup (da_cons (dn_slice (dn_var (i := 0)) dp_none (dp_some (dn_var (i := 3)))) (da_cons (dn_tup (da_cons (dn_slice (dn_sub_ix (dn_var (i := 1)) dn_int (fun _ _ => rfl)) dp_none (dp_some (dn_shl dn_int (dn_var (i := 3))))) (da_cons (dn_sub_ix (dn_var (i := 1)) dn_int (fun _ _ => rfl)) da_nil))) da_nil)))))))))
abbrev s_rank : Stmt := topS 69
abbrev N_rank : List Str := ["tower", "digits", "generator", "n"]
theorem sc_rank : FnScope N_rank ["tower"] (defScope s_rank) := ⟨rfl, rfl, rfl, by decide +kernel, rfl, by decide +kernel, by decide +kernel⟩
def den_rank : List Sl → Option Out :=
  (sSeq (sSet 1 (dK (.int 0)))
  (sSeq (sFor (iSeq (dV 0)) (gN 2)
    (sFor (iSeq (dV 2)) (gN 3)
      (sSet 1 (d2 fAdd (dV 1) (d1 fBits (dV 3))))))
  (sRet (dTup (ac (dCall fLen (ac (dV 0) a0)) (ac (d1 (fI1 fun i => -i) (dV 1)) a0))))))
theorem ok_rank {f : Addr} {fd : FuncData} {k : Nat} (F : Fun K "_rank" "_rank" s_rank f fd) (M : Names mg) (Z : CtxN P w K mg S) (TNumber : ClsC K (S.cl 0) ["tower", "element"]) (TField : ClsC K (S.cl 1) ["tower", "known_roots"]) : FnOk P w K mg base CX0 (k + 1) f fd ["tower"] (SpD S.cls (runD 1 4 (den_rank))) :=
  fn_den F sc_rank fun cdv A outer s H E hr => (ds_cons (ds_set (i := 1) sc_rank.nd dn_int)
  (ds_cons (ds_for PassesOwn.never rfl (di_seq (dn_var (i := 0))) (dg_name (i := 2) sc_rank.nd)
    (ds_one (ds_for PassesOwn.never rfl (di_seq (dn_var (i := 2))) (dg_name (i := 3) sc_rank.nd)
      (ds_one (ds_set (i := 1) sc_rank.nd (dn_add (dn_var (i := 1)) (dn_bits (dn_var (i := 3)))))))))
  (ds_one (ds_ret (dn_tup (da_cons (dn_callB is_len call_len_seq (by rfl) M.len PySem.boot_len (da_cons (dn_var (i := 0)) da_nil)) (da_cons (dn_neg (dn_var (i := 1))) da_nil)))))))
abbrev sall_together : Stmt := topS 70
abbrev Nall_together : List Str := ["pairs", "found", "small", "tower", "element", "_"]
theorem scall_together : FnScope Nall_together ["pairs"] (defScope sall_together) := ⟨rfl, rfl, rfl, by decide +kernel, rfl, by decide +kernel, by decide +kernel⟩
def denall_together (c_all_in_one_tower : List D → Option D) (cleast_field : List D → Option D) : List Sl → Option Out :=
  (sSeq (sSet 1 (dCall c_all_in_one_tower (ac (dV 0) (ac (dK (.int (4))) a0))))
  (sSeq (sIf (dAsB (d2 fIsN (dV 1) (dK .non)))
    (sSeq (sSet 2 (dLc (iSeq (dV 0)) (gTu 2 (gcons (gN 3) (gcons (gN 4) gnil))) bYes (dCall cleast_field (ac (dV 3) (ac (dV 4) a0))) [3, 4]))
    (sSet 1 (dCall c_all_in_one_tower (ac (dV 2) (ac (dCall fSum (ac (dLc (iSeq (dV 2)) (gTu 2 (gcons (gN 3) (gcons (gN 5) gnil))) bYes (dCall fLen (ac (dV 3) a0)) [3, 5]) a0)) a0)))))
    sNext)
  (sRet (dV 1))))
theorem okall_together {f : Addr} {fd : FuncData} {k : Nat} (F : Fun K "all_together" "all_together" sall_together f fd) (M : Names mg) (Z : CtxN P w K mg S) (TNumber : ClsC K (S.cl 0) ["tower", "element"]) (TField : ClsC K (S.cl 1) ["tower", "known_roots"]) {c_all_in_one_tower : List D → Option D} {cleast_field : List D → Option D} (G_all_in_one_tower : Cal P w K mg base k "_all_in_one_tower" ["pairs", "most"] (SpD S.cls c_all_in_one_tower)) (Gleast_field : Cal P w K mg base k "least_field" ["tower", "element"] (SpD S.cls cleast_field)) : FnOk P w K mg base CX0 (k + 1) f fd ["pairs"] (SpD S.cls (runD 1 6 (denall_together c_all_in_one_tower cleast_field))) :=
  fn_den F scall_together fun cdv A outer s H E hr => (ds_cons (ds_set (i := 1) scall_together.nd (dn_call G_all_in_one_tower.ok hr (by rfl) G_all_in_one_tower.m G_all_in_one_tower.kp G_all_in_one_tower.b pass0 (da_cons (dn_var (i := 0)) (da_cons (dn_globI (by rfl) M.MOST_GENERATORS) da_nil))))
  (ds_cons (ds_if (dt_isN (dn_var (i := 1)))
    (ds_cons (ds_setLc (own := [("tower", 3), ("element", 4)]) (i := 2) (by rfl) scall_together.nd rfl rfl (sw_true rfl rfl rfl (by decide +kernel)) (di_seq (dn_var (i := 0))) (blkOk_by (own := [("tower", 3), ("element", 4)]) (N := Nall_together) (sc := defScope sall_together) (by decide +kernel)) (fun _ _ _ _ _ => (dg_tup rfl (dg_cons (dg_name (i := 3) scall_together.nd) (dg_cons (dg_name (i := 4) scall_together.nd) dg_nil)))) (fun _ _ _ _ _ => dts_nil) (fun _ _ _ _ _ => (dn_call Gleast_field.ok hr (by rfl) Gleast_field.m Gleast_field.kp Gleast_field.b pass0 (da_cons (dn_var (i := 3)) (da_cons (dn_var (i := 4)) da_nil)))))
    (ds_one (ds_set (i := 1) scall_together.nd (dn_call G_all_in_one_tower.ok hr (by rfl) G_all_in_one_tower.m G_all_in_one_tower.kp G_all_in_one_tower.b pass0 (da_cons (dn_var (i := 2)) (da_cons (dn_callB (is_sum (K := K)) (cr_sum rfl) (by rfl) M.sum (by decide +kernel) (da_cons (dn_lc (own := [("tower", 3), ("_", 5)]) (by rfl) scall_together.nd (di_seq (dn_var (i := 2))) (blkOk_by (own := [("tower", 3), ("_", 5)]) (N := Nall_together) (sc := defScope sall_together) (by decide +kernel)) (fun _ _ _ _ _ => (dg_tup rfl (dg_cons (dg_name (i := 3) scall_together.nd) (dg_cons (dg_name (i := 5) scall_together.nd) dg_nil)))) (fun _ _ _ _ _ => dts_nil) (fun _ _ _ _ _ => (dn_callB is_len call_len_seq (by rfl) M.len PySem.boot_len (da_cons (dn_var (i := 3)) da_nil)))) da_nil)) da_nil))))))
    ds_nil)
  (ds_one (ds_ret (dn_var (i := 1))))))
abbrev s_all_in_one_tower : Stmt := topS 71
abbrev N_all_in_one_tower : List Str := ["pairs", "most", "whole", "tower", "_", "images", "found", "element"]
theorem sc_all_in_one_tower : FnScope N_all_in_one_tower ["pairs", "most"] (defScope s_all_in_one_tower) := ⟨rfl, rfl, rfl, by decide +kernel, rfl, by decide +kernel, by decide +kernel⟩
def den_all_in_one_tower (c_rank : List D → Option D) (cjoined : List D → Option D) (cimage_of_element : List D → Option D) : ZS :=
  (ySeq (lf (sSet 2 (dTup a0)))
  (ySeq (lf (sFor (iSeq (dV 0)) (gTu 2 (gcons (gN 3) (gcons (gN 4) gnil)))
    (sIf (dAsB (d2 fLtA (dCall c_rank (ac (dV 2) a0)) (dCall c_rank (ac (dV 3) a0))))
      (sSet 2 (dV 3))
      sNext)))
  (ySeq (ySet 5 zDict)
  (ySeq (yFor (lf (iSeq (dV 0))) (gTu 2 (gcons (gN 3) (gcons (gN 4) gnil)))
    (yIf (zAsB (zIn true (lf (dV 3)) (lf (dV 5))))
      (ySeq (lf (sSet 6 (dCall cjoined (ac (dV 2) (ac (dV 3) (ac (dV 1) a0))))))
      (ySeq (lf (sIf (dAsB (d2 fIsN (dV 6) (dK .non)))
        (sRet (dK .non))
        sNext))
      (yAsg (lf (dV 6)) (ygTu 2 (ygcons (lg (gN 2)) (ygcons (yKey (lf (dV 5)) (lf (dV 3))) ygnil))))))
      (lf sNext)))
  (yRet (zTup (yc (lf (dV 2)) (yc (zLc (lf (iSeq (dV 0))) (gTu 2 (gcons (gN 3) (gcons (gN 7) gnil))) (zCallP cimage_of_element (yc (lf (dV 2)) (yc (zIxK (lf (dV 5)) (lf (dV 3))) (yc (lf (dV 7)) y0)))) [3, 7]) y0))))))))
theorem ok_all_in_one_tower {f : Addr} {fd : FuncData} {k : Nat} (F : Fun K "_all_in_one_tower" "_all_in_one_tower" s_all_in_one_tower f fd) (M : Names mg) (Z : CtxN P w K mg S) (TNumber : ClsC K (S.cl 0) ["tower", "element"]) (TField : ClsC K (S.cl 1) ["tower", "known_roots"]) {c_rank : List D → Option D} {cjoined : List D → Option D} {cimage_of_element : List D → Option D} (G_rank : Cal P w K mg base k "_rank" ["tower"] (SpD S.cls c_rank)) (Gjoined : Cal P w K mg base k "joined" ["tower", "other", "most"] (SpD S.cls cjoined)) (Gimage_of_element : Cal P w K mg base k "image_of_element" ["tower", "images", "element"] (SpD S.cls cimage_of_element)) : FnOk P w K mg base CX0 (k + 1) f fd ["pairs", "most"] (SpD S.cls (pln (runS 2 8 (den_all_in_one_tower c_rank cjoined cimage_of_element)))) :=
  spD_pln <| fnS_den F sc_all_in_one_tower fun cdv A outer s H E hr => (zs_cons (zs (ds_set (i := 2) sc_all_in_one_tower.nd (dn_tup da_nil)))
  (zs_cons (zs (ds_for PassesOwn.never rfl (di_seq (dn_var (i := 0))) (dg_tup rfl (dg_cons (dg_name (i := 3) sc_all_in_one_tower.nd) (dg_cons (dg_name (i := 4) sc_all_in_one_tower.nd) dg_nil)))
    (ds_one (ds_if (dt_ltA hr.units0 (dn_call G_rank.ok hr (by rfl) G_rank.m G_rank.kp G_rank.b pass0 (da_cons (dn_var (i := 2)) da_nil)) (dn_call G_rank.ok hr (by rfl) G_rank.m G_rank.kp G_rank.b pass0 (da_cons (dn_var (i := 3)) da_nil)))
      (ds_one (ds_set (i := 2) sc_all_in_one_tower.nd (dn_var (i := 3))))
      ds_nil))))
  (zs_cons (zs_set (i := 5) sc_all_in_one_tower.nd (zn_dict Z.hP Z.hw))
  (zs_cons (zs_for PassesOwn.never rfl (zi (di_seq (dn_var (i := 0)))) (dg_tup rfl (dg_cons (dg_name (i := 3) sc_all_in_one_tower.nd) (dg_cons (dg_name (i := 4) sc_all_in_one_tower.nd) dg_nil)))
    (zs_one (zs_if (zt_notin Z.hP Z.hw hr.units (zl (dn_var (i := 3))) (zl (dn_var (i := 5))))
      (zs_cons (zs (ds_set (i := 6) sc_all_in_one_tower.nd (dn_call Gjoined.ok hr (by rfl) Gjoined.m Gjoined.kp Gjoined.b pass0 (da_cons (dn_var (i := 2)) (da_cons (dn_var (i := 3)) (da_cons (dn_var (i := 1)) da_nil))))))
      (zs_cons (zs (ds_if (dt_isN (dn_var (i := 6)))
        (ds_one (ds_ret dn_non))
        ds_nil))
      (zs_one (zs_asg (zl (dn_var (i := 6))) (zg_tup rfl (zg_cons (zg (dg_name (i := 2) sc_all_in_one_tower.nd)) (zg_cons (zg_key Z.hP Z.hw hr.units (zl (dn_var (i := 5))) (zl (dn_var (i := 3)))) zg_nil)))))))
      (zss ds_nil))))
  (zs_one (zs_ret (zn_tup (za_cons (zl (dn_var (i := 2))) (za_cons (zn_lc (own := [("tower", 3), ("element", 7)]) (by rfl) sc_all_in_one_tower.nd (zi (di_seq (dn_var (i := 0)))) (blkOk_by (own := [("tower", 3), ("element", 7)]) (N := N_all_in_one_tower) (sc := defScope s_all_in_one_tower) (by decide +kernel)) (fun _ _ _ _ _ => (dg_tup rfl (dg_cons (dg_name (i := 3) sc_all_in_one_tower.nd) (dg_cons (dg_name (i := 7) sc_all_in_one_tower.nd) dg_nil)))) (fun _ _ _ _ _ => (zn_callP Gimage_of_element.ok hr (by rfl) Gimage_of_element.m Gimage_of_element.kp Gimage_of_element.b pass0 (za_cons (zl (dn_var (i := 2))) (za_cons (zn_ixK Z.hP Z.hw hr.units (zl (dn_var (i := 5))) (zl (dn_var (i := 3))) (fun _ _ => rfl)) (za_cons (zl (dn_var (i := 7))) za_nil)))))) za_nil)))))))))
end
end KW

set_option maxHeartbeats 4000000
namespace KW
open PySem PySem.Spec PyProof.Rows L2 KG DN
section
variable {P : Program} {w : World} {K : PySem.W.Frag} {mg : Str → Option Value} {base : Heap} {S : CS}
abbrev sNumber___init__ : Stmt := inCls (topS 73) 0
abbrev NNumber___init__ : List Str := ["self", "n", "d"]
theorem scNumber___init__ : FnScope NNumber___init__ ["self", "n", "d"] (defScope sNumber___init__) := ⟨rfl, rfl, rfl, by decide +kernel, rfl, by decide +kernel, by decide +kernel⟩
def denNumber___init__ (clowest : List D → Option D) : ZS :=
  (ySeq (lf (sIf (dAsB (d2 fEq (dV 2) (dK (.int 0))))
    sNone
    sNext))
  (ySeq (yAsg (lf (dTup a0)) (yAtt 0 "tower" (lf (dV 0))))
  (yAsg (lf (dCall clowest (ac (dTup (ac (dV 1) a0)) (ac (dV 2) a0)))) (yAtt 0 "element" (lf (dV 0))))))
theorem okNumber___init__ {f : Addr} {fd : FuncData} {k : Nat} (F : FunD K "__init__" "Number.__init__" (defArgs sNumber___init__) (defBody sNumber___init__) (defScope sNumber___init__) [.int 1] [] f fd) (M : Names mg) (Z : CtxN P w K mg S) (TNumber : ClsC K (S.cl 0) ["tower", "element"]) (TField : ClsC K (S.cl 1) ["tower", "known_roots"]) {clowest : List D → Option D} (Glowest : Cal P w K mg base k "lowest" ["vector", "scale"] (SpD S.cls clowest)) : FnOk P w K mg base CX0 (k + 1) f fd ["self", "n", "d"] (SpS S (runS 3 3 (denNumber___init__ clowest))) :=
  fnS_denD F scNumber___init__ fun cdv A outer s H E hr => (zs_cons (zs (ds_if (dt_eq hr.units (dn_var (i := 2)) dn_int)
    (ds_one ds_nev)
    ds_nil))
  (zs_cons (zs_asg (zl (dn_tup da_nil)) (zg_att (t := 0) TNumber.cl (TNumber.na _ (by simp)) (zl (dn_var (i := 0)))))
  (zs_one (zs_asg (zl (dn_call Glowest.ok hr (by rfl) Glowest.m Glowest.kp Glowest.b pass0 (da_cons (dn_tup (da_cons (dn_var (i := 1)) da_nil)) (da_cons (dn_var (i := 2)) da_nil)))) (zg_att (t := 0) TNumber.cl (TNumber.na _ (by simp)) (zl (dn_var (i := 0))))))))
abbrev snumber_in : Stmt := topS 74
abbrev Nnumber_in : List Str := ["tower", "element", "small", "inside", "number"]
theorem scnumber_in : FnScope Nnumber_in ["tower", "element"] (defScope snumber_in) := ⟨rfl, rfl, rfl, by decide +kernel, rfl, by decide +kernel, by decide +kernel⟩
def dennumber_in (ctrimmed : List D → Option D) (cmkNumber : FnS) : ZS :=
  (ySeq (lf (sAsg (dCall ctrimmed (ac (dV 0) (ac (dV 1) a0))) (gTu 2 (gcons (gN 2) (gcons (gN 3) gnil)))))
  (ySeq (ySet 4 (zMakeD 0 cmkNumber (lf (ac (dK (.int 0)) a0)) [.int 1]))
  (ySeq (yAsg (lf (dV 2)) (yAtt 0 "tower" (lf (dV 4))))
  (ySeq (yAsg (lf (dV 3)) (yAtt 0 "element" (lf (dV 4))))
  (yRet (lf (dV 4)))))))
theorem oknumber_in {f : Addr} {fd : FuncData} {k : Nat} (F : Fun K "number_in" "number_in" snumber_in f fd) (M : Names mg) (Z : CtxN P w K mg S) (TNumber : ClsC K (S.cl 0) ["tower", "element"]) (TField : ClsC K (S.cl 1) ["tower", "known_roots"]) {ctrimmed : List D → Option D} {cmkNumber : FnS} (Gtrimmed : Cal P w K mg base k "trimmed" ["tower", "element"] (SpD S.cls ctrimmed)) (GmkNumber : MkD P w K mg base k S 0 "Number" ["self", "n", "d"] cmkNumber 1) : FnOk P w K mg base CX0 (k + 1) f fd ["tower", "element"] (SpD S.cls (frz 0 (runS 2 5 (dennumber_in ctrimmed cmkNumber)))) :=
  spD_frz Z.h0 <| fnS_den F scnumber_in fun cdv A outer s H E hr => (zs_cons (zs (ds_asg (dn_call Gtrimmed.ok hr (by rfl) Gtrimmed.m Gtrimmed.kp Gtrimmed.b pass0 (da_cons (dn_var (i := 0)) (da_cons (dn_var (i := 1)) da_nil))) (dg_tup rfl (dg_cons (dg_name (i := 2) scnumber_in.nd) (dg_cons (dg_name (i := 3) scnumber_in.nd) dg_nil)))))
  (zs_cons (zs_set (i := 4) scnumber_in.nd (zn_makeD (t := 0) GmkNumber.m GmkNumber.ok (hr.mono GmkNumber.lt) (by rfl) GmkNumber.h GmkNumber.bd GmkNumber.vd int1_rp pass0 (zla (da_cons dn_int da_nil))))
  (zs_cons (zs_asg (zl (dn_var (i := 2))) (zg_att (t := 0) TNumber.cl (TNumber.na _ (by simp)) (zl (dn_var (i := 4)))))
  (zs_cons (zs_asg (zl (dn_var (i := 3))) (zg_att (t := 0) TNumber.cl (TNumber.na _ (by simp)) (zl (dn_var (i := 4)))))
  (zs_one (zs_ret (zl (dn_var (i := 4)))))))))
abbrev sNumber_polynomial : Stmt := inCls (topS 73) 11
abbrev NNumber_polynomial : List Str := ["self"]
theorem scNumber_polynomial : FnScope NNumber_polynomial ["self"] (defScope sNumber_polynomial) := ⟨rfl, rfl, rfl, by decide +kernel, rfl, by decide +kernel, by decide +kernel⟩
def denNumber_polynomial (cleast_polynomial : List D → Option D) : List Sl → Option Out :=
  (sRet (dCall cleast_polynomial (ac (d1 (fNumF true) (dV 0)) (ac (d1 (fNumF false) (dV 0)) a0))))
theorem okNumber_polynomial {f : Addr} {fd : FuncData} {k : Nat} (F : Fun K "polynomial" "Number.polynomial" sNumber_polynomial f fd) (M : Names mg) (Z : CtxN P w K mg S) (TNumber : ClsC K (S.cl 0) ["tower", "element"]) (TField : ClsC K (S.cl 1) ["tower", "known_roots"]) {cleast_polynomial : List D → Option D} (Gleast_polynomial : Cal P w K mg base k "least_polynomial" ["tower", "element"] (SpD S.cls cleast_polynomial)) : FnOk P w K mg base CX0 (k + 1) f fd ["self"] (SpD S.cls (runD 1 1 (denNumber_polynomial cleast_polynomial))) :=
  fn_den F scNumber_polynomial fun cdv A outer s H E hr => (ds_one (ds_ret (dn_call Gleast_polynomial.ok hr (by rfl) Gleast_polynomial.m Gleast_polynomial.kp Gleast_polynomial.b pass0 (da_cons (dn_tower Z.N.cls Z.N.nt (dn_var (i := 0))) (da_cons (dn_element Z.N.cls Z.N.ne (dn_var (i := 0))) da_nil)))))
abbrev sNumber_place : Stmt := inCls (topS 73) 13
abbrev NNumber_place : List Str := ["self", "tower", "element"]
theorem scNumber_place : FnScope NNumber_place ["self"] (defScope sNumber_place) := ⟨rfl, rfl, rfl, by decide +kernel, rfl, by decide +kernel, by decide +kernel⟩
def denNumber_place (cleast_field : List D → Option D) (cplace_of : List D → Option D) : List Sl → Option Out :=
  (sSeq (sAsg (dCall cleast_field (ac (d1 (fNumF true) (dV 0)) (ac (d1 (fNumF false) (dV 0)) a0))) (gTu 2 (gcons (gN 1) (gcons (gN 2) gnil))))
  (sRet (dCall cplace_of (ac (dV 1) (ac (d2 fIx (dV 2) (dK (.int 0))) a0)))))
theorem okNumber_place {f : Addr} {fd : FuncData} {k : Nat} (F : Fun K "place" "Number.place" sNumber_place f fd) (M : Names mg) (Z : CtxN P w K mg S) (TNumber : ClsC K (S.cl 0) ["tower", "element"]) (TField : ClsC K (S.cl 1) ["tower", "known_roots"]) {cleast_field : List D → Option D} {cplace_of : List D → Option D} (Gleast_field : Cal P w K mg base k "least_field" ["tower", "element"] (SpD S.cls cleast_field)) (Gplace_of : Cal P w K mg base k "place_of" ["tower", "vector"] (SpD S.cls cplace_of)) : FnOk P w K mg base CX0 (k + 1) f fd ["self"] (SpD S.cls (runD 1 3 (denNumber_place cleast_field cplace_of))) :=
  fn_den F scNumber_place fun cdv A outer s H E hr => (ds_cons (ds_asg (dn_call Gleast_field.ok hr (by rfl) Gleast_field.m Gleast_field.kp Gleast_field.b pass0 (da_cons (dn_tower Z.N.cls Z.N.nt (dn_var (i := 0))) (da_cons (dn_element Z.N.cls Z.N.ne (dn_var (i := 0))) da_nil))) (dg_tup rfl (dg_cons (dg_name (i := 1) scNumber_place.nd) (dg_cons (dg_name (i := 2) scNumber_place.nd) dg_nil))))
  (ds_one (ds_ret (dn_call Gplace_of.ok hr (by rfl) Gplace_of.m Gplace_of.kp Gplace_of.b pass0 (da_cons (dn_var (i := 1)) (da_cons (dn_sub_ix (dn_var (i := 2)) dn_int (fun _ _ => rfl)) da_nil))))))
abbrev sField___init__ : Stmt := inCls (topS 78) 0
abbrev NField___init__ : List Str := ["self"]
theorem scField___init__ : FnScope NField___init__ ["self"] (defScope sField___init__) := ⟨rfl, rfl, rfl, by decide +kernel, rfl, by decide +kernel, by decide +kernel⟩
def denField___init__ : ZS :=
  (ySeq (yAsg (lf (dTup a0)) (yAtt 1 "tower" (lf (dV 0))))
  (yAsg zDict (yAtt 1 "known_roots" (lf (dV 0)))))
theorem okField___init__ {f : Addr} {fd : FuncData} {k : Nat} (F : Fun K "__init__" "Field.__init__" sField___init__ f fd) (M : Names mg) (Z : CtxN P w K mg S) (TNumber : ClsC K (S.cl 0) ["tower", "element"]) (TField : ClsC K (S.cl 1) ["tower", "known_roots"]) : FnOk P w K mg base CX0 (k + 1) f fd ["self"] (SpS S (runS 1 1 (denField___init__))) :=
  fnS_den F scField___init__ fun cdv A outer s H E hr => (zs_cons (zs_asg (zl (dn_tup da_nil)) (zg_att (t := 1) TField.cl (TField.na _ (by simp)) (zl (dn_var (i := 0)))))
  (zs_one (zs_asg (zn_dict Z.hP Z.hw) (zg_att (t := 1) TField.cl (TField.na _ (by simp)) (zl (dn_var (i := 0)))))))
abbrev sField_holding : Stmt := inCls (topS 78) 1
abbrev NField_holding : List Str := ["self", "numbers", "found", "number", "element"]
theorem scField_holding : FnScope NField_holding ["self", "numbers"] (defScope sField_holding) := ⟨rfl, rfl, rfl, by decide +kernel, rfl, by decide +kernel, by decide +kernel⟩
def denField_holding (call_together : List D → Option D) (c_shortest : List D → Option D) : ZS :=
  (ySeq (yAsg (lf (dCall call_together (ac (dLc (iSeq (dV 1)) (gN 3) bYes (dTup (ac (d1 (fNumF true) (dV 3)) (ac (d1 (fNumF false) (dV 3)) a0))) [3]) a0))) (ygTu 2 (ygcons (yAtt 1 "tower" (lf (dV 0))) (ygcons (lg (gN 2)) ygnil))))
  (lf (sRet (dLc (iSeq (dV 2)) (gN 4) bYes (dCall c_shortest (ac (dV 4) a0)) [4]))))
theorem okField_holding {f : Addr} {fd : FuncData} {k : Nat} (F : Fun K "holding" "Field.holding" sField_holding f fd) (M : Names mg) (Z : CtxN P w K mg S) (TNumber : ClsC K (S.cl 0) ["tower", "element"]) (TField : ClsC K (S.cl 1) ["tower", "known_roots"]) {call_together : List D → Option D} {c_shortest : List D → Option D} (Gall_together : Cal P w K mg base k "all_together" ["pairs"] (SpD S.cls call_together)) (G_shortest : Cal P w K mg base k "_shortest" ["element"] (SpD S.cls c_shortest)) : FnOk P w K mg base CX0 (k + 1) f fd ["self", "numbers"] (SpS S (runS 2 5 (denField_holding call_together c_shortest))) :=
  fnS_den F scField_holding fun cdv A outer s H E hr => (zs_cons (zs_asg (zl (dn_call Gall_together.ok hr (by rfl) Gall_together.m Gall_together.kp Gall_together.b pass0 (da_cons (dn_lc (own := [("number", 3)]) (by rfl) scField_holding.nd (di_seq (dn_var (i := 1))) (blkOk_by (own := [("number", 3)]) (N := NField_holding) (sc := defScope sField_holding) (by decide +kernel)) (fun _ _ _ _ _ => (dg_name (i := 3) scField_holding.nd)) (fun _ _ _ _ _ => dts_nil) (fun _ _ _ _ _ => (dn_tup (da_cons (dn_tower Z.N.cls Z.N.nt (dn_var (i := 3))) (da_cons (dn_element Z.N.cls Z.N.ne (dn_var (i := 3))) da_nil))))) da_nil))) (zg_tup rfl (zg_cons (zg_att (t := 1) TField.cl (TField.na _ (by simp)) (zl (dn_var (i := 0)))) (zg_cons (zg (dg_name (i := 2) scField_holding.nd)) zg_nil))))
  (zss (ds_one (ds_ret (dn_lc (own := [("element", 4)]) (by rfl) scField_holding.nd (di_seq (dn_var (i := 2))) (blkOk_by (own := [("element", 4)]) (N := NField_holding) (sc := defScope sField_holding) (by decide +kernel)) (fun _ _ _ _ _ => (dg_name (i := 4) scField_holding.nd)) (fun _ _ _ _ _ => dts_nil) (fun _ _ _ _ _ => (dn_call G_shortest.ok hr (by rfl) G_shortest.m G_shortest.kp G_shortest.b pass0 (da_cons (dn_var (i := 4)) da_nil))))))))
abbrev sField_number : Stmt := inCls (topS 78) 2
abbrev NField_number : List Str := ["self", "element"]
theorem scField_number : FnScope NField_number ["self", "element"] (defScope sField_number) := ⟨rfl, rfl, rfl, by decide +kernel, rfl, by decide +kernel, by decide +kernel⟩
def denField_number (cnumber_in : List D → Option D) : ZS :=
  (yRet (zCallP cnumber_in (yc (zSl (zFld 1 "tower" (lf (dV 0))) (lf p0) (zp1 (lf (d2 fSub (d1 fBits (dCall fLen (ac (d2 fIx (dV 1) (dK (.int 0))) a0))) (dK (.int 1)))))) (yc (lf (dV 1)) y0))))
theorem okField_number {f : Addr} {fd : FuncData} {k : Nat} (F : Fun K "number" "Field.number" sField_number f fd) (M : Names mg) (Z : CtxN P w K mg S) (TNumber : ClsC K (S.cl 0) ["tower", "element"]) (TField : ClsC K (S.cl 1) ["tower", "known_roots"]) {cnumber_in : List D → Option D} (Gnumber_in : Cal P w K mg base k "number_in" ["tower", "element"] (SpD S.cls cnumber_in)) : FnOk P w K mg base CX0 (k + 1) f fd ["self", "element"] (SpS S (runS 2 2 (denField_number cnumber_in))) :=
  fnS_den F scField_number fun cdv A outer s H E hr => (zs_one (zs_ret (zn_callP Gnumber_in.ok hr (by rfl) Gnumber_in.m Gnumber_in.kp Gnumber_in.b pass0 (za_cons (zn_slice (zn_fld (t := 1) TField.cl (TField.na _ (by simp)) (zl (dn_var (i := 0)))) (zlo dp_none) (zo_some (zl (dn_sub (dn_bits (dn_callB is_len call_len_seq (by rfl) M.len PySem.boot_len (da_cons (dn_sub_ix (dn_var (i := 1)) dn_int (fun _ _ => rfl)) da_nil))) dn_int)))) (za_cons (zl (dn_var (i := 1))) za_nil)))))
abbrev sField_minus : Stmt := inCls (topS 78) 4
abbrev NField_minus : List Str := ["self", "one", "other"]
theorem scField_minus : FnScope NField_minus ["self", "one", "other"] (defScope sField_minus) := ⟨rfl, rfl, rfl, by decide +kernel, rfl, by decide +kernel, by decide +kernel⟩
def denField_minus (c_alike : List D → Option D) (celement_difference : List D → Option D) (c_shortest : List D → Option D) : ZS :=
  (lf (sSeq (sAsg (dCall c_alike (ac (dV 1) (ac (dV 2) a0))) (gTu 2 (gcons (gN 1) (gcons (gN 2) gnil))))
  (sRet (dCall c_shortest (ac (dCall celement_difference (ac (dV 1) (ac (dV 2) a0))) a0)))))
theorem okField_minus {f : Addr} {fd : FuncData} {k : Nat} (F : Fun K "minus" "Field.minus" sField_minus f fd) (M : Names mg) (Z : CtxN P w K mg S) (TNumber : ClsC K (S.cl 0) ["tower", "element"]) (TField : ClsC K (S.cl 1) ["tower", "known_roots"]) {c_alike : List D → Option D} {celement_difference : List D → Option D} {c_shortest : List D → Option D} (G_alike : Cal P w K mg base k "_alike" ["one", "other"] (SpD S.cls c_alike)) (Gelement_difference : Cal P w K mg base k "element_difference" ["one", "other"] (SpD S.cls celement_difference)) (G_shortest : Cal P w K mg base k "_shortest" ["element"] (SpD S.cls c_shortest)) : FnOk P w K mg base CX0 (k + 1) f fd ["self", "one", "other"] (SpS S (runS 3 3 (denField_minus c_alike celement_difference c_shortest))) :=
  fnS_den F scField_minus fun cdv A outer s H E hr => (zss (ds_cons (ds_asg (dn_call G_alike.ok hr (by rfl) G_alike.m G_alike.kp G_alike.b pass0 (da_cons (dn_var (i := 1)) (da_cons (dn_var (i := 2)) da_nil))) (dg_tup rfl (dg_cons (dg_name (i := 1) scField_minus.nd) (dg_cons (dg_name (i := 2) scField_minus.nd) dg_nil))))
  (ds_one (ds_ret (dn_call G_shortest.ok hr (by rfl) G_shortest.m G_shortest.kp G_shortest.b pass0 (da_cons (dn_call Gelement_difference.ok hr (by rfl) Gelement_difference.m Gelement_difference.kp Gelement_difference.b pass0 (da_cons (dn_var (i := 1)) (da_cons (dn_var (i := 2)) da_nil))) da_nil))))))
abbrev sField_product : Stmt := inCls (topS 78) 5
abbrev NField_product : List Str := ["self", "one", "other"]
theorem scField_product : FnScope NField_product ["self", "one", "other"] (defScope sField_product) := ⟨rfl, rfl, rfl, by decide +kernel, rfl, by decide +kernel, by decide +kernel⟩
def denField_product (c_alike : List D → Option D) (c_shortest : List D → Option D) (celement_product : List D → Option D) : ZS :=
  (ySeq (lf (sAsg (dCall c_alike (ac (dV 1) (ac (dV 2) a0))) (gTu 2 (gcons (gN 1) (gcons (gN 2) gnil)))))
  (yRet (zCallP c_shortest (yc (zCallP celement_product (yc (zFld 1 "tower" (lf (dV 0))) (yc (lf (dV 1)) (yc (lf (dV 2)) y0)))) y0))))
theorem okField_product {f : Addr} {fd : FuncData} {k : Nat} (F : Fun K "product" "Field.product" sField_product f fd) (M : Names mg) (Z : CtxN P w K mg S) (TNumber : ClsC K (S.cl 0) ["tower", "element"]) (TField : ClsC K (S.cl 1) ["tower", "known_roots"]) {c_alike : List D → Option D} {c_shortest : List D → Option D} {celement_product : List D → Option D} (G_alike : Cal P w K mg base k "_alike" ["one", "other"] (SpD S.cls c_alike)) (G_shortest : Cal P w K mg base k "_shortest" ["element"] (SpD S.cls c_shortest)) (Gelement_product : Cal P w K mg base k "element_product" ["tower", "one", "other"] (SpD S.cls celement_product)) : FnOk P w K mg base CX0 (k + 1) f fd ["self", "one", "other"] (SpS S (runS 3 3 (denField_product c_alike c_shortest celement_product))) :=
  fnS_den F scField_product fun cdv A outer s H E hr => (zs_cons (zs (ds_asg (dn_call G_alike.ok hr (by rfl) G_alike.m G_alike.kp G_alike.b pass0 (da_cons (dn_var (i := 1)) (da_cons (dn_var (i := 2)) da_nil))) (dg_tup rfl (dg_cons (dg_name (i := 1) scField_product.nd) (dg_cons (dg_name (i := 2) scField_product.nd) dg_nil)))))
  (zs_one (zs_ret (zn_callP G_shortest.ok hr (by rfl) G_shortest.m G_shortest.kp G_shortest.b pass0 (za_cons (zn_callP Gelement_product.ok hr (by rfl) Gelement_product.m Gelement_product.kp Gelement_product.b pass0 (za_cons (zn_fld (t := 1) TField.cl (TField.na _ (by simp)) (zl (dn_var (i := 0)))) (za_cons (zl (dn_var (i := 1))) (za_cons (zl (dn_var (i := 2))) za_nil)))) za_nil)))))
abbrev sField_inverted : Stmt := inCls (topS 78) 7
abbrev NField_inverted : List Str := ["self", "element", "vector", "scale", "turned", "divider"]
theorem scField_inverted : FnScope NField_inverted ["self", "element"] (defScope sField_inverted) := ⟨rfl, rfl, rfl, by decide +kernel, rfl, by decide +kernel, by decide +kernel⟩
def denField_inverted (cinverse : List D → Option D) (ctimes : List D → Option D) (clowest : List D → Option D) (c_shortest : List D → Option D) : ZS :=
  (ySeq (lf (sAsg (dV 1) (gTu 2 (gcons (gN 2) (gcons (gN 3) gnil)))))
  (ySeq (yAsg (zCallP cinverse (yc (zFld 1 "tower" (lf (dV 0))) (yc (lf (dV 2)) y0))) (lg (gTu 2 (gcons (gN 4) (gcons (gN 5) gnil)))))
  (lf (sRet (dCall c_shortest (ac (dCall clowest (ac (dCall ctimes (ac (dV 4) (ac (dV 3) a0))) (ac (dV 5) a0))) a0))))))
theorem okField_inverted {f : Addr} {fd : FuncData} {k : Nat} (F : Fun K "inverted" "Field.inverted" sField_inverted f fd) (M : Names mg) (Z : CtxN P w K mg S) (TNumber : ClsC K (S.cl 0) ["tower", "element"]) (TField : ClsC K (S.cl 1) ["tower", "known_roots"]) {cinverse : List D → Option D} {ctimes : List D → Option D} {clowest : List D → Option D} {c_shortest : List D → Option D} (Ginverse : Cal P w K mg base k "inverse" ["tower", "vector"] (SpD S.cls cinverse)) (Gtimes : Cal P w K mg base k "times" ["vector", "factor"] (SpD S.cls ctimes)) (Glowest : Cal P w K mg base k "lowest" ["vector", "scale"] (SpD S.cls clowest)) (G_shortest : Cal P w K mg base k "_shortest" ["element"] (SpD S.cls c_shortest)) : FnOk P w K mg base CX0 (k + 1) f fd ["self", "element"] (SpS S (runS 2 6 (denField_inverted cinverse ctimes clowest c_shortest))) :=
  fnS_den F scField_inverted fun cdv A outer s H E hr => (zs_cons (zs (ds_asg (dn_var (i := 1)) (dg_tup rfl (dg_cons (dg_name (i := 2) scField_inverted.nd) (dg_cons (dg_name (i := 3) scField_inverted.nd) dg_nil)))))
  (zs_cons (zs_asg (zn_callP Ginverse.ok hr (by rfl) Ginverse.m Ginverse.kp Ginverse.b pass0 (za_cons (zn_fld (t := 1) TField.cl (TField.na _ (by simp)) (zl (dn_var (i := 0)))) (za_cons (zl (dn_var (i := 2))) za_nil))) (zg (dg_tup rfl (dg_cons (dg_name (i := 4) scField_inverted.nd) (dg_cons (dg_name (i := 5) scField_inverted.nd) dg_nil)))))
  (zss (ds_one (ds_ret (dn_call G_shortest.ok hr (by rfl) G_shortest.m G_shortest.kp G_shortest.b pass0 (da_cons (dn_call Glowest.ok hr (by rfl) Glowest.m Glowest.kp Glowest.b pass0 (da_cons (dn_call Gtimes.ok hr (by rfl) Gtimes.m Gtimes.kp Gtimes.b pass0 (da_cons (dn_var (i := 4)) (da_cons (dn_var (i := 3)) da_nil))) (da_cons (dn_var (i := 5)) da_nil))) da_nil)))))))
abbrev swhole_element : Stmt := topS 79
abbrev Nwhole_element : List Str := ["n"]
theorem scwhole_element : FnScope Nwhole_element ["n"] (defScope swhole_element) := ⟨rfl, rfl, rfl, by decide +kernel, rfl, by decide +kernel, by decide +kernel⟩
def denwhole_element : List Sl → Option Out :=
  (sRet (dTup (ac (dTup (ac (dV 0) a0)) (ac (dK (.int 1)) a0))))
theorem okwhole_element {f : Addr} {fd : FuncData} {k : Nat} (F : Fun K "whole_element" "whole_element" swhole_element f fd) (M : Names mg) (Z : CtxN P w K mg S) (TNumber : ClsC K (S.cl 0) ["tower", "element"]) (TField : ClsC K (S.cl 1) ["tower", "known_roots"]) : FnOk P w K mg base CX0 (k + 1) f fd ["n"] (SpD S.cls (runD 1 1 (denwhole_element))) :=
  fn_den F scwhole_element fun cdv A outer s H E hr => (ds_one (ds_ret (dn_tup (da_cons (dn_tup (da_cons (dn_var (i := 0)) da_nil)) (da_cons dn_int da_nil)))))
abbrev s_alike : Stmt := topS 80
abbrev N_alike : List Str := ["one", "other", "size"]
theorem sc_alike : FnScope N_alike ["one", "other"] (defScope s_alike) := ⟨rfl, rfl, rfl, by decide +kernel, rfl, by decide +kernel, by decide +kernel⟩
def den_alike (cwidened : List D → Option D) : List Sl → Option Out :=
  (sSeq (sSet 2 (dCall fMax (ac (dCall fLen (ac (d2 fIx (dV 0) (dK (.int 0))) a0)) (ac (dCall fLen (ac (d2 fIx (dV 1) (dK (.int 0))) a0)) a0))))
  (sRet (dTup (ac (dCall cwidened (ac (dV 0) (ac (dV 2) a0))) (ac (dCall cwidened (ac (dV 1) (ac (dV 2) a0))) a0)))))
theorem ok_alike {f : Addr} {fd : FuncData} {k : Nat} (F : Fun K "_alike" "_alike" s_alike f fd) (M : Names mg) (Z : CtxN P w K mg S) (TNumber : ClsC K (S.cl 0) ["tower", "element"]) (TField : ClsC K (S.cl 1) ["tower", "known_roots"]) {cwidened : List D → Option D} (Gwidened : Cal P w K mg base k "widened" ["element", "size"] (SpD S.cls cwidened)) : FnOk P w K mg base CX0 (k + 1) f fd ["one", "other"] (SpD S.cls (runD 2 3 (den_alike cwidened))) :=
  fn_den F sc_alike fun cdv A outer s H E hr => (ds_cons (ds_set (i := 2) sc_alike.nd (dn_callB (is_max (K := K)) ((call_max2 rfl).or (cr_max rfl)) (by rfl) M.max (by decide +kernel) (da_cons (dn_callB is_len call_len_seq (by rfl) M.len PySem.boot_len (da_cons (dn_sub_ix (dn_var (i := 0)) dn_int (fun _ _ => rfl)) da_nil)) (da_cons (dn_callB is_len call_len_seq (by rfl) M.len PySem.boot_len (da_cons (dn_sub_ix (dn_var (i := 1)) dn_int (fun _ _ => rfl)) da_nil)) da_nil))))
  (ds_one (ds_ret (dn_tup (da_cons (dn_call Gwidened.ok hr (by rfl) Gwidened.m Gwidened.kp Gwidened.b pass0 (da_cons (dn_var (i := 0)) (da_cons (dn_var (i := 2)) da_nil))) (da_cons (dn_call Gwidened.ok hr (by rfl) Gwidened.m Gwidened.kp Gwidened.b pass0 (da_cons (dn_var (i := 1)) (da_cons (dn_var (i := 2)) da_nil))) da_nil))))))
abbrev s_shortest : Stmt := topS 81
abbrev N_shortest : List Str := ["element", "vector", "scale"]
theorem sc_shortest : FnScope N_shortest ["element"] (defScope s_shortest) := ⟨rfl, rfl, rfl, by decide +kernel, rfl, by decide +kernel, by decide +kernel⟩
def den_shortest : List Sl → Option Out :=
  (sSeq (sAsg (dV 0) (gTu 2 (gcons (gN 1) (gcons (gN 2) gnil))))
  (sSeq (whileD (bAnd (dAsB (d2 (fB20 fun i j => decide (j < i)) (dCall fLen (ac (dV 1) a0)) (dK (.int 1)))) (bNot (dTru (dCall fAny (ac (dSl (dV 1) (p1 (d2 fDiv (dCall fLen (ac (dV 1) a0)) (dK (.int 2)))) p0) a0)))))
    (sSet 1 (dSl (dV 1) p0 (p1 (d2 fDiv (dCall fLen (ac (dV 1) a0)) (dK (.int 2)))))) 1000)
  (sRet (dTup (ac (dV 1) (ac (dV 2) a0))))))
theorem ok_shortest {f : Addr} {fd : FuncData} {k : Nat} (F : Fun K "_shortest" "_shortest" s_shortest f fd) (M : Names mg) (Z : CtxN P w K mg S) (TNumber : ClsC K (S.cl 0) ["tower", "element"]) (TField : ClsC K (S.cl 1) ["tower", "known_roots"]) : FnOk P w K mg base CX0 (k + 1) f fd ["element"] (SpD S.cls (runD 1 3 (den_shortest))) :=
  fn_den F sc_shortest fun cdv A outer s H E hr => (ds_cons (ds_asg (dn_var (i := 0)) (dg_tup rfl (dg_cons (dg_name (i := 1) sc_shortest.nd) (dg_cons (dg_name (i := 2) sc_shortest.nd) dg_nil))))
  (ds_cons (ds_while 1000 PassesOwn.never (PW.pt (dw_and (dt_gt (dn_callB is_len call_len_seq (by rfl) M.len PySem.boot_len (da_cons (dn_var (i := 1)) da_nil)) dn_int) (dw_and1 (dt_not (dt_truth (dn_callB (is_any (K := K)) (cr_anyA rfl) (by rfl) M.any (by decide +kernel) (da_cons (dn_slice (dn_var (i := 1)) (dp_some (dn_div (dn_callB is_len call_len_seq (by rfl) M.len PySem.boot_len (da_cons (dn_var (i := 1)) da_nil)) dn_int)) dp_none) da_nil)))))))
    (ds_one (ds_set (i := 1) sc_shortest.nd (dn_slice (dn_var (i := 1)) dp_none (dp_some (dn_div (dn_callB is_len call_len_seq (by rfl) M.len PySem.boot_len (da_cons (dn_var (i := 1)) da_nil)) dn_int))))))
  (ds_one (ds_ret (dn_tup (da_cons (dn_var (i := 1)) (da_cons (dn_var (i := 2)) da_nil)))))))
end
end KW

set_option maxHeartbeats 4000000
namespace KW
open PySem PySem.Spec PyProof.Rows L2 KG DN
section
variable {P : Program} {w : World} {K : PySem.W.Frag} {mg : Str → Option Value} {base : Heap} {S : CS}
abbrev sline_shape : Stmt := topS 84
abbrev Nline_shape : List Str := ["field", "one", "other", "a", "b"]
theorem scline_shape : FnScope Nline_shape ["field", "one", "other"] (defScope sline_shape) := ⟨rfl, rfl, rfl, by decide +kernel, rfl, by decide +kernel, by decide +kernel⟩
def denline_shape (cField_minus : FnS) (c_cross : FnS) : ZS :=
  (ySeq (ySet 3 (zMeth 1 "minus" cField_minus (lf (dV 0)) (lf (ac (d2 fIx (dV 1) (dK (.int 1))) (ac (d2 fIx (dV 2) (dK (.int 1))) a0)))))
  (ySeq (ySet 4 (zMeth 1 "minus" cField_minus (lf (dV 0)) (lf (ac (d2 fIx (dV 2) (dK (.int 0))) (ac (d2 fIx (dV 1) (dK (.int 0))) a0)))))
  (yRet (zTup (yc (lf (dK (.str "line"))) (yc (lf (dV 3)) (yc (lf (dV 4)) (yc (zCall c_cross (lf (ac (dV 0) (ac (dV 1) (ac (dV 2) a0))))) y0))))))))
theorem okline_shape {f : Addr} {fd : FuncData} {k : Nat} (F : Fun K "line_shape" "line_shape" sline_shape f fd) (M : Names mg) (Z : CtxN P w K mg S) (TNumber : ClsC K (S.cl 0) ["tower", "element"]) (TField : ClsC K (S.cl 1) ["tower", "known_roots"]) {cField_minus : FnS} {c_cross : FnS} (GField_minus : MCal P w K mg base k (S.cl 1) "minus" ["self", "one", "other"] (SpS S cField_minus)) (G_cross : Cal P w K mg base k "_cross" ["field", "one", "other"] (SpS S c_cross)) : FnOk P w K mg base CX0 (k + 1) f fd ["field", "one", "other"] (SpS S (runS 3 5 (denline_shape cField_minus c_cross))) :=
  fnS_den F scline_shape fun cdv A outer s H E hr => (zs_cons (zs_set (i := 3) scline_shape.nd (zn_meth (t := 1) (zl (dn_var (i := 0))) TField.cl GField_minus.m GField_minus.ok hr GField_minus.b pass0 (zla (da_cons (dn_sub_ix (dn_var (i := 1)) dn_int (fun _ _ => rfl)) (da_cons (dn_sub_ix (dn_var (i := 2)) dn_int (fun _ _ => rfl)) da_nil)))))
  (zs_cons (zs_set (i := 4) scline_shape.nd (zn_meth (t := 1) (zl (dn_var (i := 0))) TField.cl GField_minus.m GField_minus.ok hr GField_minus.b pass0 (zla (da_cons (dn_sub_ix (dn_var (i := 2)) dn_int (fun _ _ => rfl)) (da_cons (dn_sub_ix (dn_var (i := 1)) dn_int (fun _ _ => rfl)) da_nil)))))
  (zs_one (zs_ret (zn_tup (za_cons (zl dn_str) (za_cons (zl (dn_var (i := 3))) (za_cons (zl (dn_var (i := 4))) (za_cons (zn_call G_cross.ok hr (by rfl) G_cross.m G_cross.kp G_cross.b pass0 (zla (da_cons (dn_var (i := 0)) (da_cons (dn_var (i := 1)) (da_cons (dn_var (i := 2)) da_nil))))) za_nil)))))))))
abbrev s_cross : Stmt := topS 85
abbrev N_cross : List Str := ["field", "one", "other"]
theorem sc_cross : FnScope N_cross ["field", "one", "other"] (defScope s_cross) := ⟨rfl, rfl, rfl, by decide +kernel, rfl, by decide +kernel, by decide +kernel⟩
def den_cross (cField_minus : FnS) (cField_product : FnS) : ZS :=
  (yRet (zMeth 1 "minus" cField_minus (lf (dV 0)) (yc (zMeth 1 "product" cField_product (lf (dV 0)) (lf (ac (d2 fIx (dV 1) (dK (.int 0))) (ac (d2 fIx (dV 2) (dK (.int 1))) a0)))) (yc (zMeth 1 "product" cField_product (lf (dV 0)) (lf (ac (d2 fIx (dV 1) (dK (.int 1))) (ac (d2 fIx (dV 2) (dK (.int 0))) a0)))) y0))))
theorem ok_cross {f : Addr} {fd : FuncData} {k : Nat} (F : Fun K "_cross" "_cross" s_cross f fd) (M : Names mg) (Z : CtxN P w K mg S) (TNumber : ClsC K (S.cl 0) ["tower", "element"]) (TField : ClsC K (S.cl 1) ["tower", "known_roots"]) {cField_minus : FnS} {cField_product : FnS} (GField_minus : MCal P w K mg base k (S.cl 1) "minus" ["self", "one", "other"] (SpS S cField_minus)) (GField_product : MCal P w K mg base k (S.cl 1) "product" ["self", "one", "other"] (SpS S cField_product)) : FnOk P w K mg base CX0 (k + 1) f fd ["field", "one", "other"] (SpS S (runS 3 3 (den_cross cField_minus cField_product))) :=
  fnS_den F sc_cross fun cdv A outer s H E hr => (zs_one (zs_ret (zn_meth (t := 1) (zl (dn_var (i := 0))) TField.cl GField_minus.m GField_minus.ok hr GField_minus.b pass0 (za_cons (zn_meth (t := 1) (zl (dn_var (i := 0))) TField.cl GField_product.m GField_product.ok hr GField_product.b pass0 (zla (da_cons (dn_sub_ix (dn_var (i := 1)) dn_int (fun _ _ => rfl)) (da_cons (dn_sub_ix (dn_var (i := 2)) dn_int (fun _ _ => rfl)) da_nil)))) (za_cons (zn_meth (t := 1) (zl (dn_var (i := 0))) TField.cl GField_product.m GField_product.ok hr GField_product.b pass0 (zla (da_cons (dn_sub_ix (dn_var (i := 1)) dn_int (fun _ _ => rfl)) (da_cons (dn_sub_ix (dn_var (i := 2)) dn_int (fun _ _ => rfl)) da_nil)))) za_nil)))))
abbrev sshape_meets : Stmt := topS 89
abbrev Nshape_meets : List Str := ["field", "one", "other"]
theorem scshape_meets : FnScope Nshape_meets ["field", "one", "other"] (defScope sshape_meets) := ⟨rfl, rfl, rfl, by decide +kernel, rfl, by decide +kernel, by decide +kernel⟩
def denshape_meets (c_meets_of_lines : FnS) : ZS :=
  (ySeq (yIf (lf (bAnd (dAsB (d2 fEq (d2 fIx (dV 1) (dK (.int 0))) (dK (.str "line")))) (dAsB (d2 fEq (d2 fIx (dV 2) (dK (.int 0))) (dK (.str "line"))))))
    (yRet (zCall c_meets_of_lines (lf (ac (dV 0) (ac (dV 1) (ac (dV 2) a0))))))
    (lf sNext))
  (lf (sSeq (sIf (dAsB (d2 fEq (d2 fIx (dV 1) (dK (.int 0))) (dK (.str "line"))))
    (sRet dNev)
    sNext)
  (sSeq (sIf (dAsB (d2 fEq (d2 fIx (dV 2) (dK (.int 0))) (dK (.str "line"))))
    (sRet dNev)
    sNext)
  (sRet dNev)))))
theorem okshape_meets {f : Addr} {fd : FuncData} {k : Nat} (F : Fun K "shape_meets" "shape_meets" sshape_meets f fd) (M : Names mg) (Z : CtxN P w K mg S) (TNumber : ClsC K (S.cl 0) ["tower", "element"]) (TField : ClsC K (S.cl 1) ["tower", "known_roots"]) {c_meets_of_lines : FnS} (G_meets_of_lines : Cal P w K mg base k "_meets_of_lines" ["field", "one", "other"] (SpS S c_meets_of_lines)) : FnOk P w K mg base CX0 (k + 1) f fd ["field", "one", "other"] (SpS S (runS 3 3 (denshape_meets c_meets_of_lines))) :=
  fnS_den F scshape_meets fun cdv A outer s H E hr => (zs_cons (zs_if (zlt (PW.pt (dw_and (dt_eq hr.units (dn_sub_ix (dn_var (i := 1)) dn_int (fun _ _ => rfl)) dn_str) (dw_and1 (dt_eq hr.units (dn_sub_ix (dn_var (i := 2)) dn_int (fun _ _ => rfl)) dn_str)))))
    (zs_one (zs_ret (zn_call G_meets_of_lines.ok hr (by rfl) G_meets_of_lines.m G_meets_of_lines.kp G_meets_of_lines.b pass0 (zla (da_cons (dn_var (i := 0)) (da_cons (dn_var (i := 1)) (da_cons (dn_var (i := 2)) da_nil)))))))
    (zss ds_nil))
  (zss (ds_cons (ds_if (dt_eq hr.units (dn_sub_ix (dn_var (i := 1)) dn_int (fun _ _ => rfl)) dn_str)
    (ds_one (ds_ret dn_nev))
    ds_nil)
  (ds_cons (ds_if (dt_eq hr.units (dn_sub_ix (dn_var (i := 2)) dn_int (fun _ _ => rfl)) dn_str)
    (ds_one (ds_ret dn_nev))
    ds_nil)
  (ds_one (ds_ret dn_nev))))))
abbrev s_meets_of_lines : Stmt := topS 90
abbrev N_meets_of_lines : List Str := ["field", "one", "other", "turn", "share", "x", "y"]
theorem sc_meets_of_lines : FnScope N_meets_of_lines ["field", "one", "other"] (defScope s_meets_of_lines) := ⟨rfl, rfl, rfl, by decide +kernel, rfl, by decide +kernel, by decide +kernel⟩
def den_meets_of_lines (c_cross : FnS) (cField_inverted : FnS) (cField_product : FnS) : ZS :=
  (ySeq (ySet 3 (zCall c_cross (lf (ac (dV 0) (ac (dSl (dV 1) (p1 (dK (.int 1))) (p1 (dK (.int 3)))) (ac (dSl (dV 2) (p1 (dK (.int 1))) (p1 (dK (.int 3)))) a0))))))
  (ySeq (lf (sIf (dAsB (d1 (fEqG zeroD) (dV 3)))
    (sRet (dLst a0))
    sNext))
  (ySeq (ySet 4 (zMeth 1 "inverted" cField_inverted (lf (dV 0)) (lf (ac (dV 3) a0))))
  (ySeq (ySet 5 (zCall c_cross (lf (ac (dV 0) (ac (dSl (dV 1) (p1 (dK (.int 2))) p0) (ac (dSl (dV 2) (p1 (dK (.int 2))) p0) a0))))))
  (ySeq (ySet 6 (zCall c_cross (lf (ac (dV 0) (ac (dTup (ac (d2 fIx (dV 1) (dK (.int 3))) (ac (d2 fIx (dV 1) (dK (.int 1))) a0))) (ac (dTup (ac (d2 fIx (dV 2) (dK (.int 3))) (ac (d2 fIx (dV 2) (dK (.int 1))) a0))) a0))))))
  (yRet (zLst (yc (zTup (yc (zMeth 1 "product" cField_product (lf (dV 0)) (lf (ac (dV 5) (ac (dV 4) a0)))) (yc (zMeth 1 "product" cField_product (lf (dV 0)) (lf (ac (dV 6) (ac (dV 4) a0)))) y0))) y0))))))))
theorem ok_meets_of_lines {f : Addr} {fd : FuncData} {k : Nat} (F : Fun K "_meets_of_lines" "_meets_of_lines" s_meets_of_lines f fd) (M : Names mg) (Z : CtxN P w K mg S) (TNumber : ClsC K (S.cl 0) ["tower", "element"]) (TField : ClsC K (S.cl 1) ["tower", "known_roots"]) {aZERO : Addr} (DZERO : GTup K mg "ZERO" aZERO zeroD) {c_cross : FnS} {cField_inverted : FnS} {cField_product : FnS} (G_cross : Cal P w K mg base k "_cross" ["field", "one", "other"] (SpS S c_cross)) (GField_inverted : MCal P w K mg base k (S.cl 1) "inverted" ["self", "element"] (SpS S cField_inverted)) (GField_product : MCal P w K mg base k (S.cl 1) "product" ["self", "one", "other"] (SpS S cField_product)) : FnOk P w K mg base CX0 (k + 1) f fd ["field", "one", "other"] (SpS S (runS 3 7 (den_meets_of_lines c_cross cField_inverted cField_product))) :=
  fnS_den F sc_meets_of_lines fun cdv A outer s H E hr => (zs_cons (zs_set (i := 3) sc_meets_of_lines.nd (zn_call G_cross.ok hr (by rfl) G_cross.m G_cross.kp G_cross.b pass0 (zla (da_cons (dn_var (i := 0)) (da_cons (dn_slice (dn_var (i := 1)) (dp_some dn_int) (dp_some dn_int)) (da_cons (dn_slice (dn_var (i := 2)) (dp_some dn_int) (dp_some dn_int)) da_nil))))))
  (zs_cons (zs (ds_if (dt_eqG hr.units (by rfl) DZERO (dn_var (i := 3)))
    (ds_one (ds_ret (dn_lst da_nil)))
    ds_nil))
  (zs_cons (zs_set (i := 4) sc_meets_of_lines.nd (zn_meth (t := 1) (zl (dn_var (i := 0))) TField.cl GField_inverted.m GField_inverted.ok hr GField_inverted.b pass0 (zla (da_cons (dn_var (i := 3)) da_nil))))
  (zs_cons (zs_set (i := 5) sc_meets_of_lines.nd (zn_call G_cross.ok hr (by rfl) G_cross.m G_cross.kp G_cross.b pass0 (zla (da_cons (dn_var (i := 0)) (da_cons (dn_slice (dn_var (i := 1)) (dp_some dn_int) dp_none) (da_cons (dn_slice (dn_var (i := 2)) (dp_some dn_int) dp_none) da_nil))))))
  (zs_cons (zs_set (i := 6) sc_meets_of_lines.nd (zn_call G_cross.ok hr (by rfl) G_cross.m G_cross.kp G_cross.b pass0 (zla (da_cons (dn_var (i := 0)) (da_cons (dn_tup (da_cons (dn_sub_ix (dn_var (i := 1)) dn_int (fun _ _ => rfl)) (da_cons (dn_sub_ix (dn_var (i := 1)) dn_int (fun _ _ => rfl)) da_nil))) (da_cons (dn_tup (da_cons (dn_sub_ix (dn_var (i := 2)) dn_int (fun _ _ => rfl)) (da_cons (dn_sub_ix (dn_var (i := 2)) dn_int (fun _ _ => rfl)) da_nil))) da_nil))))))
  (zs_one (zs_ret (zn_lst (za_cons (zn_tup (za_cons (zn_meth (t := 1) (zl (dn_var (i := 0))) TField.cl GField_product.m GField_product.ok hr GField_product.b pass0 (zla (da_cons (dn_var (i := 5)) (da_cons (dn_var (i := 4)) da_nil)))) (za_cons (zn_meth (t := 1) (zl (dn_var (i := 0))) TField.cl GField_product.m GField_product.ok hr GField_product.b pass0 (zla (da_cons (dn_var (i := 6)) (da_cons (dn_var (i := 4)) da_nil)))) za_nil))) za_nil)))))))))
abbrev smeets : Stmt := topS 94
abbrev Nmeets : List Str := ["one", "other", "field", "first", "second", "x", "y"]
theorem scmeets : FnScope Nmeets ["one", "other"] (defScope smeets) := ⟨rfl, rfl, rfl, by decide +kernel, rfl, by decide +kernel, by decide +kernel⟩
def denmeets (cmkField : FnS) (c_two_shapes : FnS) (cshape_meets : FnS) (cField_number : FnS) : ZS :=
  (ySeq (ySet 2 (zMake 1 cmkField y0))
  (ySeq (yAsg (zCall c_two_shapes (lf (ac (dV 2) (ac (dV 0) (ac (dV 1) a0))))) (lg (gTu 2 (gcons (gN 3) (gcons (gN 4) gnil)))))
  (yRet (zCallP fTuple (yc (zLc (ziSeq (zCall cshape_meets (lf (ac (dV 2) (ac (dV 3) (ac (dV 4) a0)))))) (gTu 2 (gcons (gN 5) (gcons (gN 6) gnil))) (zTup (yc (zMeth 1 "number" cField_number (lf (dV 2)) (lf (ac (dV 5) a0))) (yc (zMeth 1 "number" cField_number (lf (dV 2)) (lf (ac (dV 6) a0))) y0))) [5, 6]) y0)))))
theorem okmeets {f : Addr} {fd : FuncData} {k : Nat} (F : Fun K "meets" "meets" smeets f fd) (M : Names mg) (Z : CtxN P w K mg S) (TNumber : ClsC K (S.cl 0) ["tower", "element"]) (TField : ClsC K (S.cl 1) ["tower", "known_roots"]) {cmkField : FnS} {c_two_shapes : FnS} {cshape_meets : FnS} {cField_number : FnS} (GmkField : MkC P w K mg base k S 1 "Field" ["self"] cmkField) (G_two_shapes : Cal P w K mg base k "_two_shapes" ["field", "one", "other"] (SpS S c_two_shapes)) (Gshape_meets : Cal P w K mg base k "shape_meets" ["field", "one", "other"] (SpS S cshape_meets)) (GField_number : MCal P w K mg base k (S.cl 1) "number" ["self", "element"] (SpS S cField_number)) : FnOk P w K mg base CX0 (k + 1) f fd ["one", "other"] (SpD S.cls (pln (runS 2 7 (denmeets cmkField c_two_shapes cshape_meets cField_number)))) :=
  spD_pln <| fnS_den F scmeets fun cdv A outer s H E hr => (zs_cons (zs_set (i := 2) scmeets.nd (zn_make0 (t := 1) GmkField.m GmkField.ok (hr.mono GmkField.lt) (by rfl) GmkField.h GmkField.b pass0))
  (zs_cons (zs_asg (zn_call G_two_shapes.ok hr (by rfl) G_two_shapes.m G_two_shapes.kp G_two_shapes.b pass0 (zla (da_cons (dn_var (i := 2)) (da_cons (dn_var (i := 0)) (da_cons (dn_var (i := 1)) da_nil))))) (zg (dg_tup rfl (dg_cons (dg_name (i := 3) scmeets.nd) (dg_cons (dg_name (i := 4) scmeets.nd) dg_nil)))))
  (zs_one (zs_ret (zn_callTy (is_tuple (K := K)) call_tuple_of (by rfl) M.tuple (by decide +kernel) (za_cons (zn_lc (own := [("x", 5), ("y", 6)]) (by rfl) scmeets.nd (zi_seq (zn_call Gshape_meets.ok hr (by rfl) Gshape_meets.m Gshape_meets.kp Gshape_meets.b pass0 (zla (da_cons (dn_var (i := 2)) (da_cons (dn_var (i := 3)) (da_cons (dn_var (i := 4)) da_nil)))))) (blkOk_by (own := [("x", 5), ("y", 6)]) (N := Nmeets) (sc := defScope smeets) (by decide +kernel)) (fun _ _ _ _ _ => (dg_tup rfl (dg_cons (dg_name (i := 5) scmeets.nd) (dg_cons (dg_name (i := 6) scmeets.nd) dg_nil)))) (fun _ _ _ _ _ => (zn_tup (za_cons (zn_meth (t := 1) (zl (dn_var (i := 2))) TField.cl GField_number.m GField_number.ok hr GField_number.b pass0 (zla (da_cons (dn_var (i := 5)) da_nil))) (za_cons (zn_meth (t := 1) (zl (dn_var (i := 2))) TField.cl GField_number.m GField_number.ok hr GField_number.b pass0 (zla (da_cons (dn_var (i := 6)) da_nil))) za_nil))))) za_nil))))))
abbrev s_two_shapes : Stmt := topS 95
abbrev N_two_shapes : List Str := ["field", "one", "other", "points", "many"]
theorem sc_two_shapes : FnScope N_two_shapes ["field", "one", "other"] (defScope s_two_shapes) := ⟨rfl, rfl, rfl, by decide +kernel, rfl, by decide +kernel, by decide +kernel⟩
def den_two_shapes (c_points_in : FnS) (c_shape : FnS) : ZS :=
  (ySeq (ySet 3 (zCall c_points_in (lf (ac (dV 0) (ac (d2 fAdd (dSl (dV 1) (p1 (dK (.int 1))) p0) (dSl (dV 2) (p1 (dK (.int 1))) p0)) a0)))))
  (ySeq (lf (sSet 4 (d2 fSub (dCall fLen (ac (dV 1) a0)) (dK (.int 1)))))
  (yRet (zTup (yc (zCall c_shape (lf (ac (dV 0) (ac (d2 fIx (dV 1) (dK (.int 0))) (ac (dSl (dV 3) p0 (p1 (dV 4))) a0))))) (yc (zCall c_shape (lf (ac (dV 0) (ac (d2 fIx (dV 2) (dK (.int 0))) (ac (dSl (dV 3) (p1 (dV 4)) p0) a0))))) y0))))))
theorem ok_two_shapes {f : Addr} {fd : FuncData} {k : Nat} (F : Fun K "_two_shapes" "_two_shapes" s_two_shapes f fd) (M : Names mg) (Z : CtxN P w K mg S) (TNumber : ClsC K (S.cl 0) ["tower", "element"]) (TField : ClsC K (S.cl 1) ["tower", "known_roots"]) {c_points_in : FnS} {c_shape : FnS} (G_points_in : Cal P w K mg base k "_points_in" ["field", "points"] (SpS S c_points_in)) (G_shape : Cal P w K mg base k "_shape" ["field", "word", "points"] (SpS S c_shape)) : FnOk P w K mg base CX0 (k + 1) f fd ["field", "one", "other"] (SpS S (runS 3 5 (den_two_shapes c_points_in c_shape))) :=
  fnS_den F sc_two_shapes fun cdv A outer s H E hr => (zs_cons (zs_set (i := 3) sc_two_shapes.nd (zn_call G_points_in.ok hr (by rfl) G_points_in.m G_points_in.kp G_points_in.b pass0 (zla (da_cons (dn_var (i := 0)) (da_cons (dn_add (dn_slice (dn_var (i := 1)) (dp_some dn_int) dp_none) (dn_slice (dn_var (i := 2)) (dp_some dn_int) dp_none)) da_nil)))))
  (zs_cons (zs (ds_set (i := 4) sc_two_shapes.nd (dn_sub (dn_callB is_len call_len_seq (by rfl) M.len PySem.boot_len (da_cons (dn_var (i := 1)) da_nil)) dn_int)))
  (zs_one (zs_ret (zn_tup (za_cons (zn_call G_shape.ok hr (by rfl) G_shape.m G_shape.kp G_shape.b pass0 (zla (da_cons (dn_var (i := 0)) (da_cons (dn_sub_ix (dn_var (i := 1)) dn_int (fun _ _ => rfl)) (da_cons (dn_slice (dn_var (i := 3)) dp_none (dp_some (dn_var (i := 4)))) da_nil))))) (za_cons (zn_call G_shape.ok hr (by rfl) G_shape.m G_shape.kp G_shape.b pass0 (zla (da_cons (dn_var (i := 0)) (da_cons (dn_sub_ix (dn_var (i := 2)) dn_int (fun _ _ => rfl)) (da_cons (dn_slice (dn_var (i := 3)) (dp_some (dn_var (i := 4))) dp_none) da_nil))))) za_nil)))))))
abbrev s_points_in : Stmt := topS 96
abbrev N_points_in : List Str := ["field", "points", "found", "point", "number", "k"]
theorem sc_points_in : FnScope N_points_in ["field", "points"] (defScope s_points_in) := ⟨rfl, rfl, rfl, by decide +kernel, rfl, by decide +kernel, by decide +kernel⟩
def den_points_in (cField_holding : FnS) : ZS :=
  (ySeq (ySet 2 (zMeth 1 "holding" cField_holding (lf (dV 0)) (lf (ac (dLc2 (iSeq (dV 1)) (gN 3) (iSeq (dV 3)) (gN 4) (dV 4) [3, 4] [4]) a0))))
  (lf (sRet (dLc (iRng r1D (ac (dCall fLen (ac (dV 1) a0)) a0)) (gN 5) bYes (dTup (ac (d2 fIx (dV 2) (d2 fMul (dK (.int 2)) (dV 5))) (ac (d2 fIx (dV 2) (d2 fAdd (d2 fMul (dK (.int 2)) (dV 5)) (dK (.int 1)))) a0))) [5]))))
theorem ok_points_in {f : Addr} {fd : FuncData} {k : Nat} (F : Fun K "_points_in" "_points_in" s_points_in f fd) (M : Names mg) (Z : CtxN P w K mg S) (TNumber : ClsC K (S.cl 0) ["tower", "element"]) (TField : ClsC K (S.cl 1) ["tower", "known_roots"]) {cField_holding : FnS} (GField_holding : MCal P w K mg base k (S.cl 1) "holding" ["self", "numbers"] (SpS S cField_holding)) : FnOk P w K mg base CX0 (k + 1) f fd ["field", "points"] (SpS S (runS 2 6 (den_points_in cField_holding))) :=
  fnS_den F sc_points_in fun cdv A outer s H E hr => (zs_cons (zs_set (i := 2) sc_points_in.nd (zn_meth (t := 1) (zl (dn_var (i := 0))) TField.cl GField_holding.m GField_holding.ok hr GField_holding.b pass0 (zla (da_cons (dn_lc2 (own := [("point", 3), ("number", 4)]) (vs1 := [4]) (by rfl) sc_points_in.nd (di_seq (dn_var (i := 1))) (blkOk_by (own := [("point", 3), ("number", 4)]) (N := N_points_in) (sc := defScope s_points_in) (by decide +kernel)) (fun _ _ _ _ _ => (dg_name (i := 3) sc_points_in.nd)) (fun _ _ _ _ _ => (di_seq (dn_var (i := 3)))) (fun _ _ _ _ _ => (dg_name (i := 4) sc_points_in.nd)) (fun _ _ _ _ _ => (dn_var (i := 4)))) da_nil))))
  (zss (ds_one (ds_ret (dn_lc (own := [("k", 5)]) (by rfl) sc_points_in.nd (di_range1 (by rfl) M.range (da_cons (dn_callB is_len call_len_seq (by rfl) M.len PySem.boot_len (da_cons (dn_var (i := 1)) da_nil)) da_nil)) (blkOk_by (own := [("k", 5)]) (N := N_points_in) (sc := defScope s_points_in) (by decide +kernel)) (fun _ _ _ _ _ => (dg_name (i := 5) sc_points_in.nd)) (fun _ _ _ _ _ => dts_nil) (fun _ _ _ _ _ => (dn_tup (da_cons (dn_sub_ix (dn_var (i := 2)) (dn_mul dn_int (dn_var (i := 5))) (fun _ _ => rfl)) (da_cons (dn_sub_ix (dn_var (i := 2)) (dn_add (dn_mul dn_int (dn_var (i := 5))) dn_int) (fun _ _ => rfl)) da_nil)))))))))
abbrev s_shape : Stmt := topS 97
abbrev N_shape : List Str := ["field", "word", "points"]
theorem sc_shape : FnScope N_shape ["field", "word", "points"] (defScope s_shape) := ⟨rfl, rfl, rfl, by decide +kernel, rfl, by decide +kernel, by decide +kernel⟩
def den_shape (cline_shape : FnS) : ZS :=
  (ySeq (yIf (lf (dAsB (d2 fEq (dV 1) (dK (.str "line")))))
    (yRet (zCall cline_shape (lf (ac (dV 0) (ac (d2 fIx (dV 2) (dK (.int 0))) (ac (d2 fIx (dV 2) (dK (.int 1))) a0))))))
    (lf sNext))
  (lf (sRet dNev)))
theorem ok_shape {f : Addr} {fd : FuncData} {k : Nat} (F : Fun K "_shape" "_shape" s_shape f fd) (M : Names mg) (Z : CtxN P w K mg S) (TNumber : ClsC K (S.cl 0) ["tower", "element"]) (TField : ClsC K (S.cl 1) ["tower", "known_roots"]) {cline_shape : FnS} (Gline_shape : Cal P w K mg base k "line_shape" ["field", "one", "other"] (SpS S cline_shape)) : FnOk P w K mg base CX0 (k + 1) f fd ["field", "word", "points"] (SpS S (runS 3 3 (den_shape cline_shape))) :=
  fnS_den F sc_shape fun cdv A outer s H E hr => (zs_cons (zs_if (zlt (dt_eq hr.units (dn_var (i := 1)) dn_str))
    (zs_one (zs_ret (zn_call Gline_shape.ok hr (by rfl) Gline_shape.m Gline_shape.kp Gline_shape.b pass0 (zla (da_cons (dn_var (i := 0)) (da_cons (dn_sub_ix (dn_var (i := 2)) dn_int (fun _ _ => rfl)) (da_cons (dn_sub_ix (dn_var (i := 2)) dn_int (fun _ _ => rfl)) da_nil)))))))
    (zss ds_nil))
  (zss (ds_one (ds_ret dn_nev))))
end
end KW

set_option maxHeartbeats 4000000
namespace KW
open PySem PySem.Spec PyProof.Rows L2 KG DN
section
variable {P : Program} {w : World} {K : PySem.W.Frag} {mg : Str → Option Value} {base : Heap} {S : CS}
abbrev s_law_gcd : Stmt := topS 101
abbrev N_law_gcd : List Str := ["a", "b", "left", "right", "k", "rest"]
theorem sc_law_gcd : FnScope N_law_gcd ["a", "b"] (defScope s_law_gcd) := ⟨rfl, rfl, rfl, by decide +kernel, rfl, by decide +kernel, by decide +kernel⟩
def den_law_gcd : List Sl → Option Out :=
  (sSeq (sSet 2 (dCall fAbs (ac (dV 0) a0)))
  (sSeq (sSet 3 (dCall fAbs (ac (dV 1) a0)))
  (sSeq (sFor (iRng r1D (ac (dK (.int 4000)) a0)) (gN 4)
    (sSeq (sIf (dAsB (d2 fEq (dV 3) (dK (.int 0))))
      (sRet (dV 2))
      sNext)
    (sSeq (sSet 5 (d2 fMod (dCall fIntA (ac (dV 2) a0)) (dV 3)))
    (sSeq (sSet 2 (dV 3))
    (sSet 3 (dV 5))))))
  (sRet (dV 2)))))
theorem ok_law_gcd {f : Addr} {fd : FuncData} {k : Nat} (F : Fun K "_law_gcd" "_law_gcd" s_law_gcd f fd) (M : Names mg) (Z : CtxN P w K mg S) (TNumber : ClsC K (S.cl 0) ["tower", "element"]) (TField : ClsC K (S.cl 1) ["tower", "known_roots"]) : FnOk P w K mg base CX0 (k + 1) f fd ["a", "b"] (SpD S.cls (runD 2 6 (den_law_gcd))) :=
  fn_den F sc_law_gcd fun cdv A outer s H E hr => (ds_cons (ds_set (i := 2) sc_law_gcd.nd (dn_callB is_abs call_abs (by rfl) M.abs (by decide +kernel) (da_cons (dn_var (i := 0)) da_nil)))
  (ds_cons (ds_set (i := 3) sc_law_gcd.nd (dn_callB is_abs call_abs (by rfl) M.abs (by decide +kernel) (da_cons (dn_var (i := 1)) da_nil)))
  (ds_cons (ds_for PassesOwn.never rfl (di_range1 (by rfl) M.range (da_cons dn_int da_nil)) (dg_name (i := 4) sc_law_gcd.nd)
    (ds_cons (ds_if (dt_eq hr.units (dn_var (i := 3)) dn_int)
      (ds_one (ds_ret (dn_var (i := 2))))
      ds_nil)
    (ds_cons (ds_set (i := 5) sc_law_gcd.nd (dn_mod (dn_callTy is_intA call_intA (by rfl) M.int (by decide +kernel) (da_cons (dn_var (i := 2)) da_nil)) (dn_var (i := 3))))
    (ds_cons (ds_set (i := 2) sc_law_gcd.nd (dn_var (i := 3)))
    (ds_one (ds_set (i := 3) sc_law_gcd.nd (dn_var (i := 5))))))))
  (ds_one (ds_ret (dn_var (i := 2)))))))
abbrev s_law_bits : Stmt := topS 103
abbrev N_law_bits : List Str := ["mask", "radicands", "product", "k"]
theorem sc_law_bits : FnScope N_law_bits ["mask", "radicands"] (defScope s_law_bits) := ⟨rfl, rfl, rfl, by decide +kernel, rfl, by decide +kernel, by decide +kernel⟩
def den_law_bits : List Sl → Option Out :=
  (sSeq (sSet 2 (dK (.int 1)))
  (sSeq (sFor (iRng r1D (ac (dCall fLen (ac (dV 1) a0)) a0)) (gN 3)
    (sIf (dAsB (d2 fEq (d2 fAnd (d2 fShr (dV 0) (dV 3)) (dK (.int 1))) (dK (.int 1))))
      (sSet 2 (d2 fMul (dV 2) (d2 fIx (dV 1) (dV 3))))
      sNext))
  (sRet (dV 2))))
theorem ok_law_bits {f : Addr} {fd : FuncData} {k : Nat} (F : Fun K "_law_bits" "_law_bits" s_law_bits f fd) (M : Names mg) (Z : CtxN P w K mg S) (TNumber : ClsC K (S.cl 0) ["tower", "element"]) (TField : ClsC K (S.cl 1) ["tower", "known_roots"]) : FnOk P w K mg base CX0 (k + 1) f fd ["mask", "radicands"] (SpD S.cls (runD 2 4 (den_law_bits))) :=
  fn_den F sc_law_bits fun cdv A outer s H E hr => (ds_cons (ds_set (i := 2) sc_law_bits.nd dn_int)
  (ds_cons (ds_for PassesOwn.never rfl (di_range1 (by rfl) M.range (da_cons (dn_callB is_len call_len_seq (by rfl) M.len PySem.boot_len (da_cons (dn_var (i := 1)) da_nil)) da_nil)) (dg_name (i := 3) sc_law_bits.nd)
    (ds_one (ds_if (dt_eq hr.units (dn_and (dn_shr (dn_var (i := 0)) (dn_var (i := 3))) dn_int) dn_int)
      (ds_one (ds_set (i := 2) sc_law_bits.nd (dn_mul (dn_var (i := 2)) (dn_sub_ix (dn_var (i := 1)) (dn_var (i := 3)) (fun _ _ => rfl)))))
      ds_nil)))
  (ds_one (ds_ret (dn_var (i := 2))))))
abbrev s_law_times : Stmt := topS 104
abbrev N_law_times : List Str := ["one", "other", "radicands", "found", "i", "j", "k"]
theorem sc_law_times : FnScope N_law_times ["one", "other", "radicands"] (defScope s_law_times) := ⟨rfl, rfl, rfl, by decide +kernel, rfl, by decide +kernel, by decide +kernel⟩
def den_law_times (c_law_bits : List D → Option D) : List Sl → Option Out :=
  (sSeq (sNewC 3 (dLcN (iRng r1D (ac (dCall fLen (ac (dV 0) a0)) a0)) (gN 6) (dK (.int 0)) [6]))
  (sSeq (sFor (iRng r1D (ac (dCall fLen (ac (dV 0) a0)) a0)) (gN 4)
    (sFor (iRng r1D (ac (dCall fLen (ac (dV 1) a0)) a0)) (gN 5)
      (sIf (bAnd (dAsB (d2 fNe (d2 fIx (dV 0) (dV 4)) (dK (.int 0)))) (dAsB (d2 fNe (d2 fIx (dV 1) (dV 5)) (dK (.int 0)))))
        (sSetIx 3 (d2 fAdd (dIxO 3 (d2 fXor (dV 4) (dV 5))) (d2 fMul (d2 fMul (d2 fIx (dV 0) (dV 4)) (d2 fIx (dV 1) (dV 5))) (dCall c_law_bits (ac (d2 fAnd (dV 4) (dV 5)) (ac (dV 2) a0))))) (d2 fXor (dV 4) (dV 5)))
        sNext)))
  (sFrz 3 (sRet (dV 3)))))
theorem ok_law_times {f : Addr} {fd : FuncData} {k : Nat} (F : Fun K "_law_times" "_law_times" s_law_times f fd) (M : Names mg) (Z : CtxN P w K mg S) (TNumber : ClsC K (S.cl 0) ["tower", "element"]) (TField : ClsC K (S.cl 1) ["tower", "known_roots"]) {c_law_bits : List D → Option D} (G_law_bits : Cal P w K mg base k "_law_bits" ["mask", "radicands"] (SpD S.cls c_law_bits)) : FnOk P w K mg base CX0 (k + 1) f fd ["one", "other", "radicands"] (SpD S.cls (runD 3 7 (den_law_times c_law_bits))) :=
  fn_den F sc_law_times fun cdv A outer s H E hr => (ds_cons (ds_newLc (own := [("k", 6)]) (i := 3) (by rfl) sc_law_times.nd rfl rfl (sw_true rfl rfl rfl (by decide +kernel)) (di_range1 (by rfl) M.range (da_cons (dn_callB is_len call_len_seq (by rfl) M.len PySem.boot_len (da_cons (dn_var (i := 0)) da_nil)) da_nil)) (blkOk_by (own := [("k", 6)]) (N := N_law_times) (sc := defScope s_law_times) (by decide +kernel)) (fun _ _ _ _ _ => (dg_name (i := 6) sc_law_times.nd)) (fun _ _ _ _ _ => dts_nil) (fun _ _ _ _ _ => dn_int))
  (ds_cons (ds_for PassesOwn.never rfl (di_range1 (by rfl) M.range (da_cons (dn_callB is_len call_len_seq (by rfl) M.len PySem.boot_len (da_cons (dn_var (i := 0)) da_nil)) da_nil)) (dg_name (i := 4) sc_law_times.nd)
    (ds_one (ds_for PassesOwn.never rfl (di_range1 (by rfl) M.range (da_cons (dn_callB is_len call_len_seq (by rfl) M.len PySem.boot_len (da_cons (dn_var (i := 1)) da_nil)) da_nil)) (dg_name (i := 5) sc_law_times.nd)
      (ds_one (ds_if (PW.pt (dw_and (dt_ne hr.units (dn_sub_ix (dn_var (i := 0)) (dn_var (i := 4)) (fun _ _ => rfl)) dn_int) (dw_and1 (dt_ne hr.units (dn_sub_ix (dn_var (i := 1)) (dn_var (i := 5)) (fun _ _ => rfl)) dn_int))))
        (ds_one (ds_setIx (i := 3) (dn_add (dn_ixO (i := 3) (dn_xor (dn_var (i := 4)) (dn_var (i := 5))) (fun _ _ => rfl)) (dn_mul (dn_mul (dn_sub_ix (dn_var (i := 0)) (dn_var (i := 4)) (fun _ _ => rfl)) (dn_sub_ix (dn_var (i := 1)) (dn_var (i := 5)) (fun _ _ => rfl))) (dn_call G_law_bits.ok hr (by rfl) G_law_bits.m G_law_bits.kp G_law_bits.b pass0 (da_cons (dn_and (dn_var (i := 4)) (dn_var (i := 5))) (da_cons (dn_var (i := 2)) da_nil))))) (dn_xor (dn_var (i := 4)) (dn_var (i := 5)))))
        ds_nil)))))
  (dss_frz (i := 3) (ds_one (ds_ret (dn_var (i := 3)))))))
abbrev s_law_odd : Stmt := topS 105
abbrev N_law_odd : List Str := ["mask", "count", "k"]
theorem sc_law_odd : FnScope N_law_odd ["mask"] (defScope s_law_odd) := ⟨rfl, rfl, rfl, by decide +kernel, rfl, by decide +kernel, by decide +kernel⟩
def den_law_odd : List Sl → Option Out :=
  (sSeq (sSet 1 (dK (.int 0)))
  (sSeq (sFor (iRng r1D (ac (dK (.int 5)) a0)) (gN 2)
    (sSet 1 (d2 fAdd (dV 1) (d2 fAnd (d2 fShr (dV 0) (dV 2)) (dK (.int 1))))))
  (sRet (d2 fEq (d2 fMod (dCall fIntA (ac (dV 1) a0)) (dK (.int 2))) (dK (.int 1))))))
theorem ok_law_odd {f : Addr} {fd : FuncData} {k : Nat} (F : Fun K "_law_odd" "_law_odd" s_law_odd f fd) (M : Names mg) (Z : CtxN P w K mg S) (TNumber : ClsC K (S.cl 0) ["tower", "element"]) (TField : ClsC K (S.cl 1) ["tower", "known_roots"]) : FnOk P w K mg base CX0 (k + 1) f fd ["mask"] (SpD S.cls (runD 1 3 (den_law_odd))) :=
  fn_den F sc_law_odd fun cdv A outer s H E hr => (ds_cons (ds_set (i := 1) sc_law_odd.nd dn_int)
  (ds_cons (ds_for PassesOwn.never rfl (di_range1 (by rfl) M.range (da_cons dn_int da_nil)) (dg_name (i := 2) sc_law_odd.nd)
    (ds_one (ds_set (i := 1) sc_law_odd.nd (dn_add (dn_var (i := 1)) (dn_and (dn_shr (dn_var (i := 0)) (dn_var (i := 2))) dn_int)))))
  (ds_one (ds_ret (dn_eq hr.units (dn_mod (dn_callTy is_intA call_intA (by rfl) M.int (by decide +kernel) (da_cons (dn_var (i := 1)) da_nil)) dn_int) dn_int)))))
abbrev s_law_turned : Stmt := topS 106
abbrev N_law_turned : List Str := ["vector", "mask", "found", "k"]
theorem sc_law_turned : FnScope N_law_turned ["vector", "mask"] (defScope s_law_turned) := ⟨rfl, rfl, rfl, by decide +kernel, rfl, by decide +kernel, by decide +kernel⟩
def den_law_turned (c_law_odd : List D → Option D) : List Sl → Option Out :=
  (sSeq (sNew 2 a0)
  (sSeq (sFor (iRng r1D (ac (dCall fLen (ac (dV 0) a0)) a0)) (gN 3)
    (sApp 2 (d2 fIx (dLst (ac (d2 fIx (dV 0) (dV 3)) (ac (d2 fSub (dK (.int 0)) (d2 fIx (dV 0) (dV 3))) a0))) (dCall fIntA (ac (dCall c_law_odd (ac (d2 fAnd (dV 3) (dV 1)) a0)) a0)))))
  (sFrz 2 (sRet (dV 2)))))
theorem ok_law_turned {f : Addr} {fd : FuncData} {k : Nat} (F : Fun K "_law_turned" "_law_turned" s_law_turned f fd) (M : Names mg) (Z : CtxN P w K mg S) (TNumber : ClsC K (S.cl 0) ["tower", "element"]) (TField : ClsC K (S.cl 1) ["tower", "known_roots"]) {c_law_odd : List D → Option D} (G_law_odd : Cal P w K mg base k "_law_odd" ["mask"] (SpD S.cls c_law_odd)) : FnOk P w K mg base CX0 (k + 1) f fd ["vector", "mask"] (SpD S.cls (runD 2 4 (den_law_turned c_law_odd))) :=
  fn_den F sc_law_turned fun cdv A outer s H E hr => (ds_cons (ds_new (i := 2) sc_law_turned.nd da_nil)
  (ds_cons (ds_for PassesOwn.never rfl (di_range1 (by rfl) M.range (da_cons (dn_callB is_len call_len_seq (by rfl) M.len PySem.boot_len (da_cons (dn_var (i := 0)) da_nil)) da_nil)) (dg_name (i := 3) sc_law_turned.nd)
    (ds_one (ds_app (i := 2) (dn_sub_ix (dn_lst (da_cons (dn_sub_ix (dn_var (i := 0)) (dn_var (i := 3)) (fun _ _ => rfl)) (da_cons (dn_sub dn_int (dn_sub_ix (dn_var (i := 0)) (dn_var (i := 3)) (fun _ _ => rfl))) da_nil))) (dn_callTy is_intA call_intA (by rfl) M.int (by decide +kernel) (da_cons (dn_call G_law_odd.ok hr (by rfl) G_law_odd.m G_law_odd.kp G_law_odd.b pass0 (da_cons (dn_and (dn_var (i := 3)) (dn_var (i := 1))) da_nil)) da_nil)) (fun _ _ => rfl)) (hps := fun h => ps_expr h) (hpe := fun h g => pe_bm PySem.F.plainAttrs_list PySem.F.slot_list_append PySem.F.type_list_append mt_append h g))))
  (dss_frz (i := 2) (ds_one (ds_ret (dn_var (i := 2)))))))
abbrev s_law_conjugates : Stmt := topS 107
abbrev N_law_conjugates : List Str := ["vector", "found", "mask", "other"]
theorem sc_law_conjugates : FnScope N_law_conjugates ["vector"] (defScope s_law_conjugates) := ⟨rfl, rfl, rfl, by decide +kernel, rfl, by decide +kernel, by decide +kernel⟩
def den_law_conjugates (c_law_turned : List D → Option D) : List Sl → Option Out :=
  (sSeq (sNew 1 a0)
  (sSeq (sFor (iRng r1D (ac (dCall fLen (ac (dV 0) a0)) a0)) (gN 2)
    (sSeq (sSet 3 (dCall c_law_turned (ac (dV 0) (ac (dV 2) a0))))
    (sIf (bBor 1 (dAsB (d2 fNinD (dV 3) (dV 1))))
      (sApp 1 (dV 3))
      sNext)))
  (sFrz 1 (sRet (dV 1)))))
theorem ok_law_conjugates {f : Addr} {fd : FuncData} {k : Nat} (F : Fun K "_law_conjugates" "_law_conjugates" s_law_conjugates f fd) (M : Names mg) (Z : CtxN P w K mg S) (TNumber : ClsC K (S.cl 0) ["tower", "element"]) (TField : ClsC K (S.cl 1) ["tower", "known_roots"]) {c_law_turned : List D → Option D} (G_law_turned : Cal P w K mg base k "_law_turned" ["vector", "mask"] (SpD S.cls c_law_turned)) : FnOk P w K mg base CX0 (k + 1) f fd ["vector"] (SpD S.cls (runD 1 4 (den_law_conjugates c_law_turned))) :=
  fn_den F sc_law_conjugates fun cdv A outer s H E hr => (ds_cons (ds_new (i := 1) sc_law_conjugates.nd da_nil)
  (ds_cons (ds_for PassesOwn.never rfl (di_range1 (by rfl) M.range (da_cons (dn_callB is_len call_len_seq (by rfl) M.len PySem.boot_len (da_cons (dn_var (i := 0)) da_nil)) da_nil)) (dg_name (i := 2) sc_law_conjugates.nd)
    (ds_cons (ds_set (i := 3) sc_law_conjugates.nd (dn_call G_law_turned.ok hr (by rfl) G_law_turned.m G_law_turned.kp G_law_turned.b pass0 (da_cons (dn_var (i := 0)) (da_cons (dn_var (i := 2)) da_nil))))
    (ds_one (ds_if (dt_bor (i := 1) (dt_ninD hr (dn_var (i := 3)) (dn_var (i := 1))))
      (ds_one (ds_app (i := 1) (dn_var (i := 3)) (hps := fun h => ps_expr h) (hpe := fun h g => pe_bm PySem.F.plainAttrs_list PySem.F.slot_list_append PySem.F.type_list_append mt_append h g)))
      ds_nil))))
  (dss_frz (i := 1) (ds_one (ds_ret (dn_var (i := 1)))))))
abbrev s_law_sign : Stmt := topS 108
abbrev N_law_sign : List Str := ["vector", "radicands", "figures", "scale", "k", "total", "slack", "number"]
theorem sc_law_sign : FnScope N_law_sign ["vector", "radicands"] (defScope s_law_sign) := ⟨rfl, rfl, rfl, by decide +kernel, rfl, by decide +kernel, by decide +kernel⟩
def den_law_sign : List Sl → Option Out :=
  (sSeq (sIf (bNot (dTru (dCall fAny (ac (dLc (iSeq (dV 0)) (gN 7) bYes (d2 fNe (dV 7) (dK (.int 0))) [7]) a0))))
    (sRet (dK (.int 0)))
    sNext)
  (sSeq (sFor (iSeq (dLst (ac (dK (.int 20)) (ac (dK (.int 60)) (ac (dK (.int 200)) (ac (dK (.int 800)) a0)))))) (gN 2)
    (sSeq (sSet 3 (d2 fPow (dK (.int 10)) (dK (.int 20))))
    (sSeq (sFor (iRng r1D (ac (d2 fSub (d2 fDiv (dV 2) (dK (.int 20))) (dK (.int 1))) a0)) (gN 4)
      (sSet 3 (d2 fMul (dV 3) (d2 fPow (dK (.int 10)) (dK (.int 20))))))
    (sSeq (sSet 5 (dK (.int 0)))
    (sSeq (sSet 6 (dK (.int 0)))
    (sSeq (sFor (iRng r1D (ac (dCall fLen (ac (dV 0) a0)) a0)) (gN 4)
      (sSeq (sSet 5 (d2 fAdd (dV 5) (d2 fMul (d2 fIx (dV 0) (dV 4)) dNev)))
      (sSet 6 (d2 fAdd (dV 6) (dCall fAbs (ac (d2 fIx (dV 0) (dV 4)) a0))))))
    (sIf (dAsB (d2 (fB20 fun i j => decide (j < i)) (dCall fAbs (ac (dV 5) a0)) (dV 6)))
      (sRet (d2 fIx (dLst (ac (d1 (fI1 fun i => -i) (dK (.int 1))) (ac (dK (.int 1)) a0))) (dCall fIntA (ac (d2 (fB20 fun i j => decide (j < i)) (dV 5) (dK (.int 0))) a0))))
      sNext)))))))
  (sRet (dK (.int 0)))))
theorem ok_law_sign {f : Addr} {fd : FuncData} {k : Nat} (F : Fun K "_law_sign" "_law_sign" s_law_sign f fd) (M : Names mg) (Z : CtxN P w K mg S) (TNumber : ClsC K (S.cl 0) ["tower", "element"]) (TField : ClsC K (S.cl 1) ["tower", "known_roots"]) : FnOk P w K mg base CX0 (k + 1) f fd ["vector", "radicands"] (SpD S.cls (runD 2 8 (den_law_sign))) :=
  fn_den F sc_law_sign fun cdv A outer s H E hr => (ds_cons (ds_if (dt_not (dt_truth (dn_callB (is_any (K := K)) (cr_anyA rfl) (by rfl) M.any (by decide +kernel) (da_cons (dn_lc (own := [("number", 7)]) (by rfl) sc_law_sign.nd (di_seq (dn_var (i := 0))) (blkOk_by (own := [("number", 7)]) (N := N_law_sign) (sc := defScope s_law_sign) (by decide +kernel)) (fun _ _ _ _ _ => (dg_name (i := 7) sc_law_sign.nd)) (fun _ _ _ _ _ => dts_nil) (fun _ _ _ _ _ => (dn_ne hr.units (dn_var (i := 7)) dn_int))) da_nil))))
    (ds_one (ds_ret dn_int))
    ds_nil)
  (ds_cons (ds_for PassesOwn.never rfl (di_seq (dn_lst (da_cons dn_int (da_cons dn_int (da_cons dn_int (da_cons dn_int da_nil)))))) (dg_name (i := 2) sc_law_sign.nd)
    (ds_cons (ds_set (i := 3) sc_law_sign.nd (dn_pow dn_int dn_int))
    (ds_cons (ds_for PassesOwn.never rfl (di_range1 (by rfl) M.range (da_cons (dn_sub (dn_div (dn_var (i := 2)) dn_int) dn_int) da_nil)) (dg_name (i := 4) sc_law_sign.nd)
      (ds_one (ds_set (i := 3) sc_law_sign.nd (dn_mul (dn_var (i := 3)) (dn_pow dn_int dn_int)))))
    (ds_cons (ds_set (i := 5) sc_law_sign.nd dn_int)
    (ds_cons (ds_set (i := 6) sc_law_sign.nd dn_int)
    (ds_cons (ds_for PassesOwn.never rfl (di_range1 (by rfl) M.range (da_cons (dn_callB is_len call_len_seq (by rfl) M.len PySem.boot_len (da_cons (dn_var (i := 0)) da_nil)) da_nil)) (dg_name (i := 4) sc_law_sign.nd)
      (ds_cons (ds_set (i := 5) sc_law_sign.nd (dn_add (dn_var (i := 5)) (dn_mul (dn_sub_ix (dn_var (i := 0)) (dn_var (i := 4)) (fun _ _ => rfl)) dn_nev)))
      (ds_one (ds_set (i := 6) sc_law_sign.nd (dn_add (dn_var (i := 6)) (dn_callB is_abs call_abs (by rfl) M.abs (by decide +kernel) (da_cons (dn_sub_ix (dn_var (i := 0)) (dn_var (i := 4)) (fun _ _ => rfl)) da_nil)))))))
    (ds_one (ds_if (dt_gt (dn_callB is_abs call_abs (by rfl) M.abs (by decide +kernel) (da_cons (dn_var (i := 5)) da_nil)) (dn_var (i := 6)))
      (ds_one (ds_ret (dn_sub_ix (dn_lst (da_cons (dn_neg dn_int) (da_cons dn_int da_nil))) (dn_callTy is_intA call_intA (by rfl) M.int (by decide +kernel) (da_cons (dn_gt (dn_var (i := 5)) dn_int) da_nil)) (fun _ _ => rfl))))
      ds_nil))))))))
  (ds_one (ds_ret dn_int))))
abbrev s_law_less : Stmt := topS 109
abbrev N_law_less : List Str := ["one", "other", "radicands", "k"]
theorem sc_law_less : FnScope N_law_less ["one", "other", "radicands"] (defScope s_law_less) := ⟨rfl, rfl, rfl, by decide +kernel, rfl, by decide +kernel, by decide +kernel⟩
def den_law_less (c_law_sign : List D → Option D) : List Sl → Option Out :=
  (sRet (d2 fLtA (dCall c_law_sign (ac (dLc (iRng r1D (ac (dCall fLen (ac (dV 0) a0)) a0)) (gN 3) bYes (d2 fSub (d2 fIx (dV 0) (dV 3)) (d2 fIx (dV 1) (dV 3))) [3]) (ac (dV 2) a0))) (dK (.int 0))))
theorem ok_law_less {f : Addr} {fd : FuncData} {k : Nat} (F : Fun K "_law_less" "_law_less" s_law_less f fd) (M : Names mg) (Z : CtxN P w K mg S) (TNumber : ClsC K (S.cl 0) ["tower", "element"]) (TField : ClsC K (S.cl 1) ["tower", "known_roots"]) {c_law_sign : List D → Option D} (G_law_sign : Cal P w K mg base k "_law_sign" ["vector", "radicands"] (SpD S.cls c_law_sign)) : FnOk P w K mg base CX0 (k + 1) f fd ["one", "other", "radicands"] (SpD S.cls (runD 3 4 (den_law_less c_law_sign))) :=
  fn_den F sc_law_less fun cdv A outer s H E hr => (ds_one (ds_ret (dn_ltA hr.units0 (dn_call G_law_sign.ok hr (by rfl) G_law_sign.m G_law_sign.kp G_law_sign.b pass0 (da_cons (dn_lc (own := [("k", 3)]) (by rfl) sc_law_less.nd (di_range1 (by rfl) M.range (da_cons (dn_callB is_len call_len_seq (by rfl) M.len PySem.boot_len (da_cons (dn_var (i := 0)) da_nil)) da_nil)) (blkOk_by (own := [("k", 3)]) (N := N_law_less) (sc := defScope s_law_less) (by decide +kernel)) (fun _ _ _ _ _ => (dg_name (i := 3) sc_law_less.nd)) (fun _ _ _ _ _ => dts_nil) (fun _ _ _ _ _ => (dn_sub (dn_sub_ix (dn_var (i := 0)) (dn_var (i := 3)) (fun _ _ => rfl)) (dn_sub_ix (dn_var (i := 1)) (dn_var (i := 3)) (fun _ _ => rfl))))) (da_cons (dn_var (i := 2)) da_nil))) dn_int)))
abbrev s_law_primitive : Stmt := topS 110
abbrev N_law_primitive : List Str := ["row", "shared", "number"]
theorem sc_law_primitive : FnScope N_law_primitive ["row"] (defScope s_law_primitive) := ⟨rfl, rfl, rfl, by decide +kernel, rfl, by decide +kernel, by decide +kernel⟩
def den_law_primitive (c_law_gcd : List D → Option D) : List Sl → Option Out :=
  (sSeq (sSet 1 (dK (.int 0)))
  (sSeq (sFor (iSeq (dV 0)) (gN 2)
    (sSet 1 (dCall c_law_gcd (ac (dV 1) (ac (dV 2) a0)))))
  (sSeq (sIf (dAsB (d2 fLtA (d2 fIx (dV 0) (d2 fSub (dCall fLen (ac (dV 0) a0)) (dK (.int 1)))) (dK (.int 0))))
    (sSet 1 (d2 fSub (dK (.int 0)) (dV 1)))
    sNext)
  (sRet (dCall fTuple (ac (dLc (iSeq (dV 0)) (gN 2) bYes (d2 fDiv (dV 2) (dV 1)) [2]) a0))))))
theorem ok_law_primitive {f : Addr} {fd : FuncData} {k : Nat} (F : Fun K "_law_primitive" "_law_primitive" s_law_primitive f fd) (M : Names mg) (Z : CtxN P w K mg S) (TNumber : ClsC K (S.cl 0) ["tower", "element"]) (TField : ClsC K (S.cl 1) ["tower", "known_roots"]) {c_law_gcd : List D → Option D} (G_law_gcd : Cal P w K mg base k "_law_gcd" ["a", "b"] (SpD S.cls c_law_gcd)) : FnOk P w K mg base CX0 (k + 1) f fd ["row"] (SpD S.cls (runD 1 3 (den_law_primitive c_law_gcd))) :=
  fn_den F sc_law_primitive fun cdv A outer s H E hr => (ds_cons (ds_set (i := 1) sc_law_primitive.nd dn_int)
  (ds_cons (ds_for PassesOwn.never rfl (di_seq (dn_var (i := 0))) (dg_name (i := 2) sc_law_primitive.nd)
    (ds_one (ds_set (i := 1) sc_law_primitive.nd (dn_call G_law_gcd.ok hr (by rfl) G_law_gcd.m G_law_gcd.kp G_law_gcd.b pass0 (da_cons (dn_var (i := 1)) (da_cons (dn_var (i := 2)) da_nil))))))
  (ds_cons (ds_if (dt_ltA hr.units0 (dn_sub_ix (dn_var (i := 0)) (dn_sub (dn_callB is_len call_len_seq (by rfl) M.len PySem.boot_len (da_cons (dn_var (i := 0)) da_nil)) dn_int) (fun _ _ => rfl)) dn_int)
    (ds_one (ds_set (i := 1) sc_law_primitive.nd (dn_sub dn_int (dn_var (i := 1)))))
    ds_nil)
  (ds_one (ds_ret (dn_callTy (is_tuple (K := K)) call_tuple_of (by rfl) M.tuple (by decide +kernel) (da_cons (dn_lc (own := [("number", 2)]) (by rfl) sc_law_primitive.nd (di_seq (dn_var (i := 0))) (blkOk_by (own := [("number", 2)]) (N := N_law_primitive) (sc := defScope s_law_primitive) (by decide +kernel)) (fun _ _ _ _ _ => (dg_name (i := 2) sc_law_primitive.nd)) (fun _ _ _ _ _ => dts_nil) (fun _ _ _ _ _ => (dn_div (dn_var (i := 2)) (dn_var (i := 1))))) da_nil)))))))
abbrev s_law_least : Stmt := topS 111
abbrev N_law_least : List Str := ["vector", "den", "radicands", "rows", "other", "longer", "at", "part", "k", "found", "scale", "row"]
theorem sc_law_least : FnScope N_law_least ["vector", "den", "radicands"] (defScope s_law_least) := ⟨rfl, rfl, rfl, by decide +kernel, rfl, by decide +kernel, by decide +kernel⟩
def den_law_least (c_law_times : List D → Option D) (c_law_conjugates : List D → Option D) (c_law_primitive : List D → Option D) : List Sl → Option Out :=
  (sSeq (sSet 3 (dLst (ac (d2 fAdd (dLst (ac (dK (.int 1)) a0)) (dLc (iRng r1D (ac (d2 fSub (dCall fLen (ac (dV 0) a0)) (dK (.int 1))) a0)) (gN 8) bYes (dK (.int 0)) [8])) a0)))
  (sSeq (sFor (iSeq (dCall c_law_conjugates (ac (dV 0) a0))) (gN 4) (leastBody c_law_times))
  (sSeq (sNew 9 a0)
  (sSeq (sSet 10 (dK (.int 1)))
  (sSeq (sFor (iSeq (dV 3)) (gN 11)
    (sSeq (sApp 9 (d2 fMul (d2 fIx (dV 11) (dK (.int 0))) (dV 10)))
    (sSet 10 (d2 fMul (dV 10) (dV 1)))))
  (sFrz 9 (sRet (dCall c_law_primitive (ac (dV 9) a0)))))))))
theorem ok_law_least {f : Addr} {fd : FuncData} {k : Nat} (F : Fun K "_law_least" "_law_least" s_law_least f fd) (M : Names mg) (Z : CtxN P w K mg S) (TNumber : ClsC K (S.cl 0) ["tower", "element"]) (TField : ClsC K (S.cl 1) ["tower", "known_roots"]) {c_law_times : List D → Option D} {c_law_conjugates : List D → Option D} {c_law_primitive : List D → Option D} (G_law_times : Cal P w K mg base k "_law_times" ["one", "other", "radicands"] (SpD S.cls c_law_times)) (G_law_conjugates : Cal P w K mg base k "_law_conjugates" ["vector"] (SpD S.cls c_law_conjugates)) (G_law_primitive : Cal P w K mg base k "_law_primitive" ["row"] (SpD S.cls c_law_primitive)) : FnOk P w K mg base CX0 (k + 1) f fd ["vector", "den", "radicands"] (SpD S.cls (runD 3 12 (den_law_least c_law_times c_law_conjugates c_law_primitive))) :=
  fn_den F sc_law_least fun cdv A outer s H E hr => (ds_cons (ds_set (i := 3) sc_law_least.nd (dn_lst (da_cons (dn_add (dn_lst (da_cons dn_int da_nil)) (dn_lc (own := [("k", 8)]) (by rfl) sc_law_least.nd (di_range1 (by rfl) M.range (da_cons (dn_sub (dn_callB is_len call_len_seq (by rfl) M.len PySem.boot_len (da_cons (dn_var (i := 0)) da_nil)) dn_int) da_nil)) (blkOk_by (own := [("k", 8)]) (N := N_law_least) (sc := defScope s_law_least) (by decide +kernel)) (fun _ _ _ _ _ => (dg_name (i := 8) sc_law_least.nd)) (fun _ _ _ _ _ => dts_nil) (fun _ _ _ _ _ => dn_int))) da_nil)))
  (ds_cons (ds_for PassesOwn.never rfl (di_seq (dn_call G_law_conjugates.ok hr (by rfl) G_law_conjugates.m G_law_conjugates.kp G_law_conjugates.b pass0 (da_cons (dn_var (i := 0)) da_nil))) (dg_name (i := 4) sc_law_least.nd) (pss_to (pss_cons (ps_set (i := 5) sc_law_least.nd rfl (.inl rfl) (pe_op op_cat (pe_lc (own := [("row", 11)]) (by rfl) sc_law_least.nd (di_seq (dn_var (i := 3))) (blkOk_by (own := [("row", 11)]) (N := N_law_least) (sc := defScope s_law_least) (by decide +kernel)) (fun _ _ _ _ _ => dg_name (i := 11) sc_law_least.nd) (fun _ _ _ _ _ => pts_nil) (fun _ _ _ _ _ => (pe_lc (own := [("k", 8)]) (by rfl) sc_law_least.nd (di_seq (dn_var (i := 0))) (blkOk_by (own := [("k", 8)]) rfl) (fun _ _ _ _ _ => dg_name (i := 8) sc_law_least.nd) (fun _ _ _ _ _ => dts_nil) (fun _ _ _ _ _ => dn_int)))) (pe_lst (pa_cons (pe_lc (own := [("k", 8)]) (by rfl) sc_law_least.nd (di_seq (dn_var (i := 0))) (blkOk_by (own := [("k", 8)]) (N := N_law_least) (sc := defScope s_law_least) (by decide +kernel)) (fun _ _ _ _ _ => dg_name (i := 8) sc_law_least.nd) (fun _ _ _ _ _ => dts_nil) (fun _ _ _ _ _ => dn_int)) pa_nil))))
      (pss_cons (ps_for PassesOwn.never rfl (pi_range1 (by rfl) M.range (pa_cons (pe_callB call_len_seq (by rfl) M.len PySem.boot_len (pa_cons (pv 3) pa_nil)) pa_nil)) (pg_name (i := 6) sc_law_least.nd rfl (.inl rfl))
        (pss_cons (ps_set (i := 7) sc_law_least.nd rfl (.inl rfl) (pe_call G_law_times.ok hr (by rfl) G_law_times.m G_law_times.kp G_law_times.b .nil pass0 (pa_cons (pe_ix ix_list (pv 3) (pv 6) (fun _ _ => rfl)) (pa_cons (pv 4) (pa_cons (pv 2) pa_nil)))))
        (pss_one (ps_for PassesOwn.never rfl (pi_range1 (by rfl) M.range (pa_cons (pe_callB call_len_seq (by rfl) M.len PySem.boot_len (pa_cons (pv 0) pa_nil)) pa_nil)) (pg_name (i := 8) sc_law_least.nd rfl (.inl rfl))
          (pss_cons (ps_asg (pe_op op_sub (pe_ix ix_seq (pe_ix ix_list (pv 5) (pv 6) (fun _ _ => rfl)) (pv 8) (fun _ _ => rfl)) (pe_ix ix_seq (pv 7) (pv 8) (fun _ _ => rfl))) (pg_sub (pe_ix ix_list (pv 5) (pv 6) (fun _ _ => rfl)) (pv 8) set_list))
          (pss_one (ps_asg (pe_op op_add (pe_ix ix_seq (pe_ix ix_list (pv 5) (pe_op op_add (pv 6) pe_int) (fun _ _ => rfl)) (pv 8) (fun _ _ => rfl)) (pe_ix ix_seq (pe_ix ix_list (pv 3) (pv 6) (fun _ _ => rfl)) (pv 8) (fun _ _ => rfl))) (pg_sub (pe_ix ix_list (pv 5) (pe_op op_add (pv 6) pe_int) (fun _ _ => rfl)) (pv 8) set_list))))))))
      (pss_one (ps_set (i := 3) sc_law_least.nd rfl (.inl rfl) (pv 5))))) least_ok))
  (ds_cons (ds_new (i := 9) sc_law_least.nd da_nil)
  (ds_cons (ds_set (i := 10) sc_law_least.nd dn_int)
  (ds_cons (ds_for PassesOwn.never rfl (di_seq (dn_var (i := 3))) (dg_name (i := 11) sc_law_least.nd)
    (ds_cons (ds_app (i := 9) (dn_mul (dn_sub_ix (dn_var (i := 11)) dn_int (fun _ _ => rfl)) (dn_var (i := 10))) (hps := fun h => ps_expr h) (hpe := fun h g => pe_bm PySem.F.plainAttrs_list PySem.F.slot_list_append PySem.F.type_list_append mt_append h g))
    (ds_one (ds_set (i := 10) sc_law_least.nd (dn_mul (dn_var (i := 10)) (dn_var (i := 1)))))))
  (dss_frz (i := 9) (ds_one (ds_ret (dn_call G_law_primitive.ok hr (by rfl) G_law_primitive.m G_law_primitive.kp G_law_primitive.b pass0 (da_cons (dn_var (i := 9)) da_nil))))))))))
abbrev s_law_place : Stmt := topS 112
abbrev N_law_place : List Str := ["vector", "radicands", "other"]
theorem sc_law_place : FnScope N_law_place ["vector", "radicands"] (defScope s_law_place) := ⟨rfl, rfl, rfl, by decide +kernel, rfl, by decide +kernel, by decide +kernel⟩
def den_law_place (c_law_conjugates : List D → Option D) (c_law_less : List D → Option D) : List Sl → Option Out :=
  (sRet (dCall fLen (ac (dLc (iSeq (dCall c_law_conjugates (ac (dV 0) a0))) (gN 2) (dTru (dCall c_law_less (ac (dV 2) (ac (dV 0) (ac (dV 1) a0))))) (dV 2) [2]) a0)))
theorem ok_law_place {f : Addr} {fd : FuncData} {k : Nat} (F : Fun K "_law_place" "_law_place" s_law_place f fd) (M : Names mg) (Z : CtxN P w K mg S) (TNumber : ClsC K (S.cl 0) ["tower", "element"]) (TField : ClsC K (S.cl 1) ["tower", "known_roots"]) {c_law_conjugates : List D → Option D} {c_law_less : List D → Option D} (G_law_conjugates : Cal P w K mg base k "_law_conjugates" ["vector"] (SpD S.cls c_law_conjugates)) (G_law_less : Cal P w K mg base k "_law_less" ["one", "other", "radicands"] (SpD S.cls c_law_less)) : FnOk P w K mg base CX0 (k + 1) f fd ["vector", "radicands"] (SpD S.cls (runD 2 3 (den_law_place c_law_conjugates c_law_less))) :=
  fn_den F sc_law_place fun cdv A outer s H E hr => (ds_one (ds_ret (dn_callB is_len call_len_seq (by rfl) M.len PySem.boot_len (da_cons (dn_lc (own := [("other", 2)]) (by rfl) sc_law_place.nd (di_seq (dn_call G_law_conjugates.ok hr (by rfl) G_law_conjugates.m G_law_conjugates.kp G_law_conjugates.b pass0 (da_cons (dn_var (i := 0)) da_nil))) (blkOk_by (own := [("other", 2)]) (N := N_law_place) (sc := defScope s_law_place) (by decide +kernel)) (fun _ _ _ _ _ => (dg_name (i := 2) sc_law_place.nd)) (fun _ _ _ _ _ => (dts_one (dt_truth (dn_call G_law_less.ok hr (by rfl) G_law_less.m G_law_less.kp G_law_less.b pass0 (da_cons (dn_var (i := 2)) (da_cons (dn_var (i := 0)) (da_cons (dn_var (i := 1)) da_nil))))))) (fun _ _ _ _ _ => (dn_var (i := 2)))) da_nil))))
abbrev s_law_is : Stmt := topS 113
abbrev N_law_is : List Str := ["number", "vector", "den", "radicands", "told", "place"]
theorem sc_law_is : FnScope N_law_is ["number", "vector", "den", "radicands"] (defScope s_law_is) := ⟨rfl, rfl, rfl, by decide +kernel, rfl, by decide +kernel, by decide +kernel⟩
def den_law_is (cNumber_polynomial : List D → Option D) (c_law_least : List D → Option D) (cNumber_place : List D → Option D) (c_law_place : List D → Option D) : List Sl → Option Out :=
  (sSeq (sIf (bNot (dTru (d1 fIsNum (dV 0))))
    (sRet (dK (.bl false)))
    sNext)
  (sSeq (sSet 4 (dMethN cNumber_polynomial (dV 0) a0))
  (sSeq (sIf (bOr (bNot (dTru (d1 fIsTup (dV 4)))) (dAsB (d2 fNe (dV 4) (dCall c_law_least (ac (dV 1) (ac (dV 2) (ac (dV 3) a0)))))))
    (sRet (dK (.bl false)))
    sNext)
  (sSeq (sSet 5 (dMethN cNumber_place (dV 0) a0))
  (sRet (vAnd (d1 dNot (d1 fIsBool (dV 5))) (d2 fEq (dV 5) (dCall c_law_place (ac (dV 1) (ac (dV 3) a0))))))))))
theorem ok_law_is {f : Addr} {fd : FuncData} {k : Nat} (F : Fun K "_law_is" "_law_is" s_law_is f fd) (M : Names mg) (Z : CtxN P w K mg S) (TNumber : ClsC K (S.cl 0) ["tower", "element"]) (TField : ClsC K (S.cl 1) ["tower", "known_roots"]) {cNumber_polynomial : List D → Option D} {c_law_least : List D → Option D} {cNumber_place : List D → Option D} {c_law_place : List D → Option D} (GNumber_polynomial : MCal P w K mg base k S.cls "polynomial" ["self"] (SpD S.cls cNumber_polynomial)) (G_law_least : Cal P w K mg base k "_law_least" ["vector", "den", "radicands"] (SpD S.cls c_law_least)) (GNumber_place : MCal P w K mg base k S.cls "place" ["self"] (SpD S.cls cNumber_place)) (G_law_place : Cal P w K mg base k "_law_place" ["vector", "radicands"] (SpD S.cls c_law_place)) : FnOk P w K mg base CX0 (k + 1) f fd ["number", "vector", "den", "radicands"] (SpD S.cls (runD 4 6 (den_law_is cNumber_polynomial c_law_least cNumber_place c_law_place))) :=
  fn_den F sc_law_is fun cdv A outer s H E hr => (ds_cons (ds_if (dt_not (dt_truth (dn_isNum Z.N.is (by rfl) M.isinstance (by rfl) Z.N.g (dn_var (i := 0)))))
    (ds_one (ds_ret dn_bl))
    ds_nil)
  (ds_cons (ds_set (i := 4) sc_law_is.nd (dn_methN0 (dn_var (i := 0)) Z.N.cls GNumber_polynomial.m GNumber_polynomial.ok hr GNumber_polynomial.b pass0))
  (ds_cons (ds_if (PW.pt (dw_or (dt_not (dt_truth (dn_isTup (by rfl) M.isinstance (by rfl) M.tuple (dn_var (i := 4))))) (dw_or1 (dt_ne hr.units (dn_var (i := 4)) (dn_call G_law_least.ok hr (by rfl) G_law_least.m G_law_least.kp G_law_least.b pass0 (da_cons (dn_var (i := 1)) (da_cons (dn_var (i := 2)) (da_cons (dn_var (i := 3)) da_nil))))))))
    (ds_one (ds_ret dn_bl))
    ds_nil)
  (ds_cons (ds_set (i := 5) sc_law_is.nd (dn_methN0 (dn_var (i := 0)) Z.N.cls GNumber_place.m GNumber_place.ok hr GNumber_place.b pass0))
  (ds_one (ds_ret (dn_andV (dn_not (dn_isBool (by rfl) M.isinstance (by rfl) M.bool (dn_var (i := 5)))) (dn_one (dn_eq hr.units (dn_var (i := 5)) (dn_call G_law_place.ok hr (by rfl) G_law_place.m G_law_place.kp G_law_place.b pass0 (da_cons (dn_var (i := 1)) (da_cons (dn_var (i := 3)) da_nil))))))))))))
abbrev s_law_line : Stmt := topS 116
abbrev N_law_line : List Str := ["one", "other", "a", "b"]
theorem sc_law_line : FnScope N_law_line ["one", "other"] (defScope s_law_line) := ⟨rfl, rfl, rfl, by decide +kernel, rfl, by decide +kernel, by decide +kernel⟩
def den_law_line : List Sl → Option Out :=
  (sSeq (sSet 2 (d2 fSub (d2 fIx (dV 1) (dK (.int 1))) (d2 fIx (dV 0) (dK (.int 1)))))
  (sSeq (sSet 3 (d2 fSub (d2 fIx (dV 0) (dK (.int 0))) (d2 fIx (dV 1) (dK (.int 0)))))
  (sRet (dTup (ac (dV 2) (ac (dV 3) (ac (d2 fAdd (d2 fMul (dV 2) (d2 fIx (dV 0) (dK (.int 0)))) (d2 fMul (dV 3) (d2 fIx (dV 0) (dK (.int 1))))) a0)))))))
theorem ok_law_line {f : Addr} {fd : FuncData} {k : Nat} (F : Fun K "_law_line" "_law_line" s_law_line f fd) (M : Names mg) (Z : CtxN P w K mg S) (TNumber : ClsC K (S.cl 0) ["tower", "element"]) (TField : ClsC K (S.cl 1) ["tower", "known_roots"]) : FnOk P w K mg base CX0 (k + 1) f fd ["one", "other"] (SpD S.cls (runD 2 4 (den_law_line))) :=
  fn_den F sc_law_line fun cdv A outer s H E hr => (ds_cons (ds_set (i := 2) sc_law_line.nd (dn_sub (dn_sub_ix (dn_var (i := 1)) dn_int (fun _ _ => rfl)) (dn_sub_ix (dn_var (i := 0)) dn_int (fun _ _ => rfl))))
  (ds_cons (ds_set (i := 3) sc_law_line.nd (dn_sub (dn_sub_ix (dn_var (i := 0)) dn_int (fun _ _ => rfl)) (dn_sub_ix (dn_var (i := 1)) dn_int (fun _ _ => rfl))))
  (ds_one (ds_ret (dn_tup (da_cons (dn_var (i := 2)) (da_cons (dn_var (i := 3)) (da_cons (dn_add (dn_mul (dn_var (i := 2)) (dn_sub_ix (dn_var (i := 0)) dn_int (fun _ _ => rfl))) (dn_mul (dn_var (i := 3)) (dn_sub_ix (dn_var (i := 0)) dn_int (fun _ _ => rfl)))) da_nil))))))))
abbrev s_law_crossing : Stmt := topS 117
abbrev N_law_crossing : List Str := ["one", "other", "a", "b", "c", "d", "e", "f", "size", "x", "y"]
theorem sc_law_crossing : FnScope N_law_crossing ["one", "other"] (defScope s_law_crossing) := ⟨rfl, rfl, rfl, by decide +kernel, rfl, by decide +kernel, by decide +kernel⟩
def den_law_crossing : List Sl → Option Out :=
  (sSeq (sAsg (dV 0) (gTu 3 (gcons (gN 2) (gcons (gN 3) (gcons (gN 4) gnil)))))
  (sSeq (sAsg (dV 1) (gTu 3 (gcons (gN 5) (gcons (gN 6) (gcons (gN 7) gnil)))))
  (sSeq (sSet 8 (d2 fSub (d2 fMul (dV 2) (dV 6)) (d2 fMul (dV 3) (dV 5))))
  (sSeq (sIf (dAsB (d2 fEq (dV 8) (dK (.int 0))))
    (sRet (dLst a0))
    sNext)
  (sSeq (sSet 9 (d2 fSub (d2 fMul (dV 4) (dV 6)) (d2 fMul (dV 3) (dV 7))))
  (sSeq (sSet 10 (d2 fSub (d2 fMul (dV 2) (dV 7)) (d2 fMul (dV 4) (dV 5))))
  (sSeq (sIf (dAsB (d2 fLtA (dV 8) (dK (.int 0))))
    (sPar3 8 9 10 (ac (d2 fSub (dK (.int 0)) (dV 8)) (ac (d2 fSub (dK (.int 0)) (dV 9)) (ac (d2 fSub (dK (.int 0)) (dV 10)) a0))))
    sNext)
  (sRet (dLst (ac (dTup (ac (dLst (ac (dLst (ac (dV 9) (ac (dK (.int 0)) a0))) (ac (dLst (ac (dV 10) (ac (dK (.int 0)) a0))) a0))) (ac (dV 8) (ac (dK (.int 2)) a0)))) a0))))))))))
theorem ok_law_crossing {f : Addr} {fd : FuncData} {k : Nat} (F : Fun K "_law_crossing" "_law_crossing" s_law_crossing f fd) (M : Names mg) (Z : CtxN P w K mg S) (TNumber : ClsC K (S.cl 0) ["tower", "element"]) (TField : ClsC K (S.cl 1) ["tower", "known_roots"]) : FnOk P w K mg base CX0 (k + 1) f fd ["one", "other"] (SpD S.cls (runD 2 11 (den_law_crossing))) :=
  fn_den F sc_law_crossing fun cdv A outer s H E hr => (ds_cons (ds_asg (dn_var (i := 0)) (dg_tup rfl (dg_cons (dg_name (i := 2) sc_law_crossing.nd) (dg_cons (dg_name (i := 3) sc_law_crossing.nd) (dg_cons (dg_name (i := 4) sc_law_crossing.nd) dg_nil)))))
  (ds_cons (ds_asg (dn_var (i := 1)) (dg_tup rfl (dg_cons (dg_name (i := 5) sc_law_crossing.nd) (dg_cons (dg_name (i := 6) sc_law_crossing.nd) (dg_cons (dg_name (i := 7) sc_law_crossing.nd) dg_nil)))))
  (ds_cons (ds_set (i := 8) sc_law_crossing.nd (dn_sub (dn_mul (dn_var (i := 2)) (dn_var (i := 6))) (dn_mul (dn_var (i := 3)) (dn_var (i := 5)))))
  (ds_cons (ds_if (dt_eq hr.units (dn_var (i := 8)) dn_int)
    (ds_one (ds_ret (dn_lst da_nil)))
    ds_nil)
  (ds_cons (ds_set (i := 9) sc_law_crossing.nd (dn_sub (dn_mul (dn_var (i := 4)) (dn_var (i := 6))) (dn_mul (dn_var (i := 3)) (dn_var (i := 7)))))
  (ds_cons (ds_set (i := 10) sc_law_crossing.nd (dn_sub (dn_mul (dn_var (i := 2)) (dn_var (i := 7))) (dn_mul (dn_var (i := 4)) (dn_var (i := 5)))))
  (ds_cons (ds_if (dt_ltA hr.units0 (dn_var (i := 8)) dn_int)
    (ds_one (ds_par3 (i := 8) (j := 9) (l := 10) rfl sc_law_crossing.nd (da_cons (dn_sub dn_int (dn_var (i := 8))) (da_cons (dn_sub dn_int (dn_var (i := 9))) (da_cons (dn_sub dn_int (dn_var (i := 10))) da_nil)))))
    ds_nil)
  (ds_one (ds_ret (dn_lst (da_cons (dn_tup (da_cons (dn_lst (da_cons (dn_lst (da_cons (dn_var (i := 9)) (da_cons dn_int da_nil))) (da_cons (dn_lst (da_cons (dn_var (i := 10)) (da_cons dn_int da_nil))) da_nil))) (da_cons (dn_var (i := 8)) (da_cons dn_int da_nil)))) da_nil)))))))))))
abbrev s_law_made_point : Stmt := topS 118
abbrev N_law_made_point : List Str := ["point"]
theorem sc_law_made_point : FnScope N_law_made_point ["point"] (defScope s_law_made_point) := ⟨rfl, rfl, rfl, by decide +kernel, rfl, by decide +kernel, by decide +kernel⟩
def den_law_made_point (cmkNumber : FnS) : List Sl → Option Out :=
  (sRet (dTup (ac (dMakeN 0 cmkNumber (ac (d2 fIx (dV 0) (dK (.int 0))) a0) [.int 1]) (ac (dMakeN 0 cmkNumber (ac (d2 fIx (dV 0) (dK (.int 1))) a0) [.int 1]) a0))))
theorem ok_law_made_point {f : Addr} {fd : FuncData} {k : Nat} (F : Fun K "_law_made_point" "_law_made_point" s_law_made_point f fd) (M : Names mg) (Z : CtxN P w K mg S) (TNumber : ClsC K (S.cl 0) ["tower", "element"]) (TField : ClsC K (S.cl 1) ["tower", "known_roots"]) {cmkNumber : FnS} (GmkNumber : MkD P w K mg base k S 0 "Number" ["self", "n", "d"] cmkNumber 1) : FnOk P w K mg base CX0 (k + 1) f fd ["point"] (SpD S.cls (runD 1 1 (den_law_made_point cmkNumber))) :=
  fn_den F sc_law_made_point fun cdv A outer s H E hr => (ds_one (ds_ret (dn_tup (da_cons (dn_makeN Z.h0 GmkNumber.m GmkNumber.ok (hr.mono GmkNumber.lt) (by rfl) GmkNumber.h GmkNumber.bd GmkNumber.vd int1_rp pass0 (da_cons (dn_sub_ix (dn_var (i := 0)) dn_int (fun _ _ => rfl)) da_nil)) (da_cons (dn_makeN Z.h0 GmkNumber.m GmkNumber.ok (hr.mono GmkNumber.lt) (by rfl) GmkNumber.h GmkNumber.bd GmkNumber.vd int1_rp pass0 (da_cons (dn_sub_ix (dn_var (i := 0)) dn_int (fun _ _ => rfl)) da_nil)) da_nil)))))
abbrev s_law_are : Stmt := topS 119
abbrev N_law_are : List Str := ["told", "due", "k", "point", "size", "m"]
theorem sc_law_are : FnScope N_law_are ["told", "due"] (defScope s_law_are) := ⟨rfl, rfl, rfl, by decide +kernel, rfl, by decide +kernel, by decide +kernel⟩
def den_law_are (c_law_is : List D → Option D) : List Sl → Option Out :=
  (sSeq (sIf (bOr (bNot (dTru (d1 fIsTup (dV 0)))) (dAsB (d2 fNe (dCall fLen (ac (dV 0) a0)) (dCall fLen (ac (dV 1) a0)))))
    (sRet (dK (.bl false)))
    sNext)
  (sSeq (sFor (iRng r1D (ac (dCall fLen (ac (dV 1) a0)) a0)) (gN 2)
    (sSeq (sAsg (d2 fIx (dV 1) (dV 2)) (gTu 3 (gcons (gN 3) (gcons (gN 4) (gcons (gN 5) gnil)))))
    (sSeq (sIf (bOr (bNot (dTru (d1 fIsTup (d2 fIx (dV 0) (dV 2))))) (dAsB (d2 fNe (dCall fLen (ac (d2 fIx (dV 0) (dV 2)) a0)) (dK (.int 2)))))
      (sRet (dK (.bl false)))
      sNext)
    (sIf (bOr (bNot (dTru (dCall c_law_is (ac (d2 fIx (d2 fIx (dV 0) (dV 2)) (dK (.int 0))) (ac (d2 fIx (dV 3) (dK (.int 0))) (ac (dV 4) (ac (dLst (ac (dV 5) a0)) a0))))))) (bNot (dTru (dCall c_law_is (ac (d2 fIx (d2 fIx (dV 0) (dV 2)) (dK (.int 1))) (ac (d2 fIx (dV 3) (dK (.int 1))) (ac (dV 4) (ac (dLst (ac (dV 5) a0)) a0))))))))
      (sRet (dK (.bl false)))
      sNext))))
  (sRet (dK (.bl true)))))
theorem ok_law_are {f : Addr} {fd : FuncData} {k : Nat} (F : Fun K "_law_are" "_law_are" s_law_are f fd) (M : Names mg) (Z : CtxN P w K mg S) (TNumber : ClsC K (S.cl 0) ["tower", "element"]) (TField : ClsC K (S.cl 1) ["tower", "known_roots"]) {c_law_is : List D → Option D} (G_law_is : Cal P w K mg base k "_law_is" ["number", "vector", "den", "radicands"] (SpD S.cls c_law_is)) : FnOk P w K mg base CX0 (k + 1) f fd ["told", "due"] (SpD S.cls (runD 2 6 (den_law_are c_law_is))) :=
  fn_den F sc_law_are fun cdv A outer s H E hr => (ds_cons (ds_if (PW.pt (dw_or (dt_not (dt_truth (dn_isTup (by rfl) M.isinstance (by rfl) M.tuple (dn_var (i := 0))))) (dw_or1 (dt_ne hr.units (dn_callB is_len call_len_seq (by rfl) M.len PySem.boot_len (da_cons (dn_var (i := 0)) da_nil)) (dn_callB is_len call_len_seq (by rfl) M.len PySem.boot_len (da_cons (dn_var (i := 1)) da_nil))))))
    (ds_one (ds_ret dn_bl))
    ds_nil)
  (ds_cons (ds_for PassesOwn.never rfl (di_range1 (by rfl) M.range (da_cons (dn_callB is_len call_len_seq (by rfl) M.len PySem.boot_len (da_cons (dn_var (i := 1)) da_nil)) da_nil)) (dg_name (i := 2) sc_law_are.nd)
    (ds_cons (ds_asg (dn_sub_ix (dn_var (i := 1)) (dn_var (i := 2)) (fun _ _ => rfl)) (dg_tup rfl (dg_cons (dg_name (i := 3) sc_law_are.nd) (dg_cons (dg_name (i := 4) sc_law_are.nd) (dg_cons (dg_name (i := 5) sc_law_are.nd) dg_nil)))))
    (ds_cons (ds_if (PW.pt (dw_or (dt_not (dt_truth (dn_isTup (by rfl) M.isinstance (by rfl) M.tuple (dn_sub_ix (dn_var (i := 0)) (dn_var (i := 2)) (fun _ _ => rfl))))) (dw_or1 (dt_ne hr.units (dn_callB is_len call_len_seq (by rfl) M.len PySem.boot_len (da_cons (dn_sub_ix (dn_var (i := 0)) (dn_var (i := 2)) (fun _ _ => rfl)) da_nil)) dn_int))))
      (ds_one (ds_ret dn_bl))
      ds_nil)
    (ds_one (ds_if (PW.pt (dw_or (dt_not (dt_truth (dn_call G_law_is.ok hr (by rfl) G_law_is.m G_law_is.kp G_law_is.b pass0 (da_cons (dn_sub_ix (dn_sub_ix (dn_var (i := 0)) (dn_var (i := 2)) (fun _ _ => rfl)) dn_int (fun _ _ => rfl)) (da_cons (dn_sub_ix (dn_var (i := 3)) dn_int (fun _ _ => rfl)) (da_cons (dn_var (i := 4)) (da_cons (dn_lst (da_cons (dn_var (i := 5)) da_nil)) da_nil))))))) (dw_or1 (dt_not (dt_truth (dn_call G_law_is.ok hr (by rfl) G_law_is.m G_law_is.kp G_law_is.b pass0 (da_cons (dn_sub_ix (dn_sub_ix (dn_var (i := 0)) (dn_var (i := 2)) (fun _ _ => rfl)) dn_int (fun _ _ => rfl)) (da_cons (dn_sub_ix (dn_var (i := 3)) dn_int (fun _ _ => rfl)) (da_cons (dn_var (i := 4)) (da_cons (dn_lst (da_cons (dn_var (i := 5)) da_nil)) da_nil))))))))))
      (ds_one (ds_ret dn_bl))
      ds_nil)))))
  (ds_one (ds_ret dn_bl))))
end
end KW

set_option maxHeartbeats 4000000
namespace KW
open PySem PySem.Spec PyProof.Rows L2 KG DN
section
variable {P : Program} {w : World} {K : PySem.W.Frag} {mg : Str → Option Value} {base : Heap} {S : CS}
abbrev s_law_point : Stmt := topS 114
abbrev N_law_point : List Str := ["state", "most"]
theorem sc_law_point : FnScope N_law_point ["state", "most"] (defScope s_law_point) := ⟨rfl, rfl, rfl, by decide +kernel, rfl, by decide +kernel, by decide +kernel⟩
def den_law_point (c_law_take : FnT) : OS :=
  (vRet (oTup (wc (o2 fSub (oCall c_law_take (lo (lf (ac (dV 0) (ac (d2 fAdd (d2 fMul (dK (.int 2)) (dV 1)) (dK (.int 1))) a0))))) (lo (lf (dV 1)))) (wc (o2 fSub (oCall c_law_take (lo (lf (ac (dV 0) (ac (d2 fAdd (d2 fMul (dK (.int 2)) (dV 1)) (dK (.int 1))) a0))))) (lo (lf (dV 1)))) w0))))
theorem ok_law_point {f : Addr} {fd : FuncData} {k : Nat} (F : Fun K "_law_point" "_law_point" s_law_point f fd) (M : Names mg) (Z : CtxN P w K mg S) (TNumber : ClsC K (S.cl 0) ["tower", "element"]) (TField : ClsC K (S.cl 1) ["tower", "known_roots"]) {c_law_take : FnT} (G_law_take : Cal P w K mg base k "_law_take" ["state", "many"] (SpO S c_law_take)) : FnOk P w K mg base CX0 (k + 1) f fd ["state", "most"] (SpO S (runO 2 2 (den_law_point c_law_take))) :=
  fnO_den F sc_law_point fun cdv A outer s H E hr => (os_one (os_ret (on_tup (oa_cons (on_sub (on_call G_law_take.ok hr (by rfl) G_law_take.m G_law_take.kp G_law_take.b pass0 (ola (zla (da_cons (dn_var (i := 0)) (da_cons (dn_add (dn_mul dn_int (dn_var (i := 1))) dn_int) da_nil))))) (ol (zl (dn_var (i := 1))))) (oa_cons (on_sub (on_call G_law_take.ok hr (by rfl) G_law_take.m G_law_take.kp G_law_take.b pass0 (ola (zla (da_cons (dn_var (i := 0)) (da_cons (dn_add (dn_mul dn_int (dn_var (i := 1))) dn_int) da_nil))))) (ol (zl (dn_var (i := 1))))) oa_nil)))))
abbrev s_law_two_points : Stmt := topS 115
abbrev N_law_two_points : List Str := ["state", "most", "one", "other"]
theorem sc_law_two_points : FnScope N_law_two_points ["state", "most"] (defScope s_law_two_points) := ⟨rfl, rfl, rfl, by decide +kernel, rfl, by decide +kernel, by decide +kernel⟩
def den_law_two_points (c_law_point : FnT) : OS :=
  (vSeq (vSet 2 (oCall c_law_point (lo (lf (ac (dV 0) (ac (dV 1) a0))))))
  (vSeq (vSet 3 (oCall c_law_point (lo (lf (ac (dV 0) (ac (dV 1) a0))))))
  (los (lf (sSeq (sIf (dAsB (d2 fEq (dV 2) (dV 3)))
    (sSet 3 (dTup (ac (d2 fAdd (d2 fIx (dV 3) (dK (.int 0))) (dK (.int 1))) (ac (d2 fIx (dV 3) (dK (.int 1))) a0))))
    sNext)
  (sRet (dTup (ac (dV 2) (ac (dV 3) a0)))))))))
theorem ok_law_two_points {f : Addr} {fd : FuncData} {k : Nat} (F : Fun K "_law_two_points" "_law_two_points" s_law_two_points f fd) (M : Names mg) (Z : CtxN P w K mg S) (TNumber : ClsC K (S.cl 0) ["tower", "element"]) (TField : ClsC K (S.cl 1) ["tower", "known_roots"]) {c_law_point : FnT} (G_law_point : Cal P w K mg base k "_law_point" ["state", "most"] (SpO S c_law_point)) : FnOk P w K mg base CX0 (k + 1) f fd ["state", "most"] (SpO S (runO 2 4 (den_law_two_points c_law_point))) :=
  fnO_den F sc_law_two_points fun cdv A outer s H E hr => (os_cons (os_set (i := 2) sc_law_two_points.nd (on_call G_law_point.ok hr (by rfl) G_law_point.m G_law_point.kp G_law_point.b pass0 (ola (zla (da_cons (dn_var (i := 0)) (da_cons (dn_var (i := 1)) da_nil))))))
  (os_cons (os_set (i := 3) sc_law_two_points.nd (on_call G_law_point.ok hr (by rfl) G_law_point.m G_law_point.kp G_law_point.b pass0 (ola (zla (da_cons (dn_var (i := 0)) (da_cons (dn_var (i := 1)) da_nil))))))
  (oss (zss (ds_cons (ds_if (dt_eq hr.units (dn_var (i := 2)) (dn_var (i := 3)))
    (ds_one (ds_set (i := 3) sc_law_two_points.nd (dn_tup (da_cons (dn_add (dn_sub_ix (dn_var (i := 3)) dn_int (fun _ _ => rfl)) dn_int) (da_cons (dn_sub_ix (dn_var (i := 3)) dn_int (fun _ _ => rfl)) da_nil)))))
    ds_nil)
  (ds_one (ds_ret (dn_tup (da_cons (dn_var (i := 2)) (da_cons (dn_var (i := 3)) da_nil))))))))))
abbrev slaw : Stmt := topS 120
abbrev Nlaw : List Str := ["script", "state", "one", "two", "three", "four", "step", "first", "second", "a", "b", "c", "due", "left", "right"]
theorem sclaw : FnScope Nlaw ["script"] (defScope slaw) := ⟨rfl, rfl, rfl, by decide +kernel, rfl, by decide +kernel, by decide +kernel⟩
def denlaw (c_law_two_points : FnT) (c_law_take : FnT) (c_law_line : List D → Option D) (c_law_crossing : List D → Option D) (c_law_made_point : List D → Option D) (cmeets : List D → Option D) (c_law_are : List D → Option D) : OS :=
  (vSeq (vAsg (oCall c_law_two_points (lo (lf (ac (dV 1) (ac (dK (.int 20)) a0))))) (lg (gTu 2 (gcons (gN 2) (gcons (gN 3) gnil)))))
  (vSeq (vAsg (oCall c_law_two_points (lo (lf (ac (dV 1) (ac (dK (.int 20)) a0))))) (lg (gTu 2 (gcons (gN 4) (gcons (gN 5) gnil)))))
  (vSeq (vIf (oAsB (o2 fEq (oCall c_law_take (lo (lf (ac (dV 1) (ac (dK (.int 3)) a0))))) (lo (lf (dK (.int 1))))))
    (vSeq (vSet 6 (o2 fAdd (lo (lf (dK (.int 1)))) (oCall c_law_take (lo (lf (ac (dV 1) (ac (dK (.int 3)) a0)))))))
    (los (lf (sSet 5 (dTup (ac (d2 fAdd (d2 fIx (dV 4) (dK (.int 0))) (d2 fMul (dV 6) (d2 fSub (d2 fIx (dV 3) (dK (.int 0))) (d2 fIx (dV 2) (dK (.int 0)))))) (ac (d2 fAdd (d2 fIx (dV 4) (dK (.int 1))) (d2 fMul (dV 6) (d2 fSub (d2 fIx (dV 3) (dK (.int 1))) (d2 fIx (dV 2) (dK (.int 1)))))) a0)))))))
    (los (lf sNext)))
  (los (lf (sSeq (sSet 7 (dCall c_law_line (ac (dV 2) (ac (dV 3) a0))))
  (sSeq (sSet 8 (dCall c_law_line (ac (dV 4) (ac (dV 5) a0))))
  (sSeq (sAsg (dV 7) (gTu 3 (gcons (gN 9) (gcons (gN 10) (gcons (gN 11) gnil)))))
  (sSeq (sIf (bAnd (dAsB (d2 fEq (d2 fMul (dV 9) (d2 fIx (dV 8) (dK (.int 1)))) (d2 fMul (dV 10) (d2 fIx (dV 8) (dK (.int 0)))))) (dAsB (d2 fEq (d2 fAdd (d2 fMul (dV 9) (d2 fIx (dV 4) (dK (.int 0)))) (d2 fMul (dV 10) (d2 fIx (dV 4) (dK (.int 1))))) (dV 11))))
    (sRet (dK (.bl true)))
    sNext)
  (sSeq (sSet 12 (dCall c_law_crossing (ac (dV 7) (ac (dV 8) a0))))
  (sSeq (sSet 13 (dTup (ac (dK (.str "line")) (ac (dCall c_law_made_point (ac (dV 2) a0)) (ac (dCall c_law_made_point (ac (dV 3) a0)) a0)))))
  (sSeq (sSet 14 (dTup (ac (dK (.str "line")) (ac (dCall c_law_made_point (ac (dV 4) a0)) (ac (dCall c_law_made_point (ac (dV 5) a0)) a0)))))
  (sRet (vAnd (dCall c_law_are (ac (dCall cmeets (ac (dV 13) (ac (dV 14) a0))) (ac (dV 12) a0))) (dCall c_law_are (ac (dCall cmeets (ac (dV 14) (ac (dV 13) a0))) (ac (dV 12) a0)))))))))))))))))
theorem suitelaw {f : Addr} {k : Nat} (M : Names mg) (Z : CtxN P w K mg S) (TNumber : ClsC K (S.cl 0) ["tower", "element"]) (TField : ClsC K (S.cl 1) ["tower", "known_roots"]) {c_law_two_points : FnT} {c_law_take : FnT} {c_law_line : List D → Option D} {c_law_crossing : List D → Option D} {c_law_made_point : List D → Option D} {cmeets : List D → Option D} {c_law_are : List D → Option D} (G_law_two_points : Cal P w K mg base k "_law_two_points" ["state", "most"] (SpO S c_law_two_points)) (G_law_take : Cal P w K mg base k "_law_take" ["state", "many"] (SpO S c_law_take)) (G_law_line : Cal P w K mg base k "_law_line" ["one", "other"] (SpD S.cls c_law_line)) (G_law_crossing : Cal P w K mg base k "_law_crossing" ["one", "other"] (SpD S.cls c_law_crossing)) (G_law_made_point : Cal P w K mg base k "_law_made_point" ["point"] (SpD S.cls c_law_made_point)) (Gmeets : Cal P w K mg base k "meets" ["one", "other"] (SpD S.cls cmeets)) (G_law_are : Cal P w K mg base k "_law_are" ["told", "due"] (SpD S.cls c_law_are)) (cdv : Value) (A : Around) (outer : List Env) (s : Shared) (H : Hp) (E : XK) (hr : Room k (A.deeper (envOfC "law" (defScope slaw) s.heap.objs.size f cdv))) : PSs (cxOf CX0 P w K mg base Nlaw "law" (defScope slaw) f cdv A outer s H E).nox ((defBody slaw).drop 1) (tO S (denlaw c_law_two_points c_law_take c_law_line c_law_crossing c_law_made_point cmeets c_law_are)) :=
  (os_cons (os_asg (on_call G_law_two_points.ok hr (by rfl) G_law_two_points.m G_law_two_points.kp G_law_two_points.b pass0 (ola (zla (da_cons (dn_var (i := 1)) (da_cons dn_int da_nil))))) (zg (dg_tup rfl (dg_cons (dg_name (i := 2) sclaw.nd) (dg_cons (dg_name (i := 3) sclaw.nd) dg_nil)))))
  (os_cons (os_asg (on_call G_law_two_points.ok hr (by rfl) G_law_two_points.m G_law_two_points.kp G_law_two_points.b pass0 (ola (zla (da_cons (dn_var (i := 1)) (da_cons dn_int da_nil))))) (zg (dg_tup rfl (dg_cons (dg_name (i := 4) sclaw.nd) (dg_cons (dg_name (i := 5) sclaw.nd) dg_nil)))))
  (os_cons (os_if (ot_eq hr.units (on_call G_law_take.ok hr (by rfl) G_law_take.m G_law_take.kp G_law_take.b pass0 (ola (zla (da_cons (dn_var (i := 1)) (da_cons dn_int da_nil))))) (ol (zl dn_int)))
    (os_cons (os_set (i := 6) sclaw.nd (on_add (ol (zl dn_int)) (on_call G_law_take.ok hr (by rfl) G_law_take.m G_law_take.kp G_law_take.b pass0 (ola (zla (da_cons (dn_var (i := 1)) (da_cons dn_int da_nil)))))))
    (oss (zss (ds_one (ds_set (i := 5) sclaw.nd (dn_tup (da_cons (dn_add (dn_sub_ix (dn_var (i := 4)) dn_int (fun _ _ => rfl)) (dn_mul (dn_var (i := 6)) (dn_sub (dn_sub_ix (dn_var (i := 3)) dn_int (fun _ _ => rfl)) (dn_sub_ix (dn_var (i := 2)) dn_int (fun _ _ => rfl))))) (da_cons (dn_add (dn_sub_ix (dn_var (i := 4)) dn_int (fun _ _ => rfl)) (dn_mul (dn_var (i := 6)) (dn_sub (dn_sub_ix (dn_var (i := 3)) dn_int (fun _ _ => rfl)) (dn_sub_ix (dn_var (i := 2)) dn_int (fun _ _ => rfl))))) da_nil))))))))
    (oss (zss ds_nil)))
  (oss (zss (ds_cons (ds_set (i := 7) sclaw.nd (dn_call G_law_line.ok hr (by rfl) G_law_line.m G_law_line.kp G_law_line.b pass0 (da_cons (dn_var (i := 2)) (da_cons (dn_var (i := 3)) da_nil))))
  (ds_cons (ds_set (i := 8) sclaw.nd (dn_call G_law_line.ok hr (by rfl) G_law_line.m G_law_line.kp G_law_line.b pass0 (da_cons (dn_var (i := 4)) (da_cons (dn_var (i := 5)) da_nil))))
  (ds_cons (ds_asg (dn_var (i := 7)) (dg_tup rfl (dg_cons (dg_name (i := 9) sclaw.nd) (dg_cons (dg_name (i := 10) sclaw.nd) (dg_cons (dg_name (i := 11) sclaw.nd) dg_nil)))))
  (ds_cons (ds_if (PW.pt (dw_and (dt_eq hr.units (dn_mul (dn_var (i := 9)) (dn_sub_ix (dn_var (i := 8)) dn_int (fun _ _ => rfl))) (dn_mul (dn_var (i := 10)) (dn_sub_ix (dn_var (i := 8)) dn_int (fun _ _ => rfl)))) (dw_and1 (dt_eq hr.units (dn_add (dn_mul (dn_var (i := 9)) (dn_sub_ix (dn_var (i := 4)) dn_int (fun _ _ => rfl))) (dn_mul (dn_var (i := 10)) (dn_sub_ix (dn_var (i := 4)) dn_int (fun _ _ => rfl)))) (dn_var (i := 11))))))
    (ds_one (ds_ret dn_bl))
    ds_nil)
  (ds_cons (ds_set (i := 12) sclaw.nd (dn_call G_law_crossing.ok hr (by rfl) G_law_crossing.m G_law_crossing.kp G_law_crossing.b pass0 (da_cons (dn_var (i := 7)) (da_cons (dn_var (i := 8)) da_nil))))
  (ds_cons (ds_set (i := 13) sclaw.nd (dn_tup (da_cons dn_str (da_cons (dn_call G_law_made_point.ok hr (by rfl) G_law_made_point.m G_law_made_point.kp G_law_made_point.b pass0 (da_cons (dn_var (i := 2)) da_nil)) (da_cons (dn_call G_law_made_point.ok hr (by rfl) G_law_made_point.m G_law_made_point.kp G_law_made_point.b pass0 (da_cons (dn_var (i := 3)) da_nil)) da_nil)))))
  (ds_cons (ds_set (i := 14) sclaw.nd (dn_tup (da_cons dn_str (da_cons (dn_call G_law_made_point.ok hr (by rfl) G_law_made_point.m G_law_made_point.kp G_law_made_point.b pass0 (da_cons (dn_var (i := 4)) da_nil)) (da_cons (dn_call G_law_made_point.ok hr (by rfl) G_law_made_point.m G_law_made_point.kp G_law_made_point.b pass0 (da_cons (dn_var (i := 5)) da_nil)) da_nil)))))
  (ds_one (ds_ret (dn_andV (dn_call G_law_are.ok hr (by rfl) G_law_are.m G_law_are.kp G_law_are.b pass0 (da_cons (dn_call Gmeets.ok hr (by rfl) Gmeets.m Gmeets.kp Gmeets.b pass0 (da_cons (dn_var (i := 13)) (da_cons (dn_var (i := 14)) da_nil))) (da_cons (dn_var (i := 12)) da_nil))) (dn_one (dn_call G_law_are.ok hr (by rfl) G_law_are.m G_law_are.kp G_law_are.b pass0 (da_cons (dn_call Gmeets.ok hr (by rfl) Gmeets.m Gmeets.kp Gmeets.b pass0 (da_cons (dn_var (i := 14)) (da_cons (dn_var (i := 13)) da_nil))) (da_cons (dn_var (i := 12)) da_nil)))))))))))))))))))
end
end KW

namespace KW
open DN PySem
abbrev Fn := List D → Option D
def fno : Fn := fun _ => none
def f_law_take : FnT := drawT
def fplus : Fn := (runD 2 4 (denplus))
def fminus : Fn := (runD 2 4 (denminus))
def ftimes : Fn := (runD 2 3 (dentimes))
def fpadded : Fn := (runD 2 2 (denpadded))
def sccmultiplied : Nat → Nat → Fn
  | 0, _ => fno
  | n + 1, 0 => (runD 3 10 (denmultiplied (sccmultiplied n 0) fplus fminus))
  | _ + 1, _ => fno
def fmultiplied : Fn := sccmultiplied 12 0
def flowest : Fn := (runD 2 4 (denlowest))
def sccinverse : Nat → Nat → Fn
  | 0, _ => fno
  | n + 1, 0 => (runD 2 7 (deninverse flowest (sccinverse n 0) fpadded fmultiplied ftimes))
  | _ + 1, _ => fno
def finverse : Fn := sccinverse 12 0
def felement_sum : Fn := (runD 2 6 (denelement_sum ftimes fplus flowest))
def felement_difference : Fn := (runD 2 6 (denelement_difference ftimes fminus flowest))
def felement_product : Fn := (runD 3 3 (denelement_product fmultiplied flowest))
def f_shares : Fn := (runD 1 4 (den_shares))
def f_chosen : Fn := (runD 2 4 (den_chosen))
def ftrimmed : Fn := (runD 2 7 (dentrimmed f_shares f_chosen))
def fbound : Fn := (runD 2 7 (denbound))
def f_unit : Fn := (runD 1 1 (den_unit))
def f_root : Fn := (runD 2 4 (den_root))
def f_scaled : Fn := (runD 3 6 (den_scaled))
def f_bases : Fn := (runD 2 11 (den_bases f_unit fbound f_root f_scaled))
def f_count_below_first : Fn := (runD 1 6 (den_count_below_first))
def fplace_of : Fn := (runD 2 6 (denplace_of f_bases fbound f_count_below_first))
def fwidened : Fn := (runD 2 2 (denwidened fpadded))
def sccimage : Nat → Nat → Fn
  | 0, _ => fno
  | n + 1, 0 => (runD 3 8 (denimage fpadded (sccimage n 0) fwidened felement_product felement_sum))
  | _ + 1, _ => fno
def fimage : Fn := sccimage 12 0
def fimage_of_element : Fn := (runD 3 5 (denimage_of_element fimage flowest))
def fjoined : Fn := (runD 3 7 (denjoined fimage))
def fprimitive : Fn := (runD 1 3 (denprimitive))
def fcharacteristic : Fn := (runD 3 11 (dencharacteristic fpadded ftimes fminus))
def f_polynomial_root : Fn := (runD 2 7 (den_polynomial_root felement_product felement_difference flowest))
def f_least_terms : Fn := (runD 3 6 (den_least_terms fcharacteristic f_polynomial_root))
def f_degree : Fn := (runD 3 3 (den_degree f_least_terms))
def fleast_polynomial : Fn := (runD 2 8 (denleast_polynomial f_least_terms fprimitive))
def fleast_field : Fn := (runD 2 4 (denleast_field f_degree))
def f_rank : Fn := (runD 1 4 (den_rank))
def f_all_in_one_tower : Fn := (pln (runS 2 8 (den_all_in_one_tower f_rank fjoined fimage_of_element)))
def fall_together : Fn := (runD 1 6 (denall_together f_all_in_one_tower fleast_field))
def fNumber___init__ : FnS := (runS 3 3 (denNumber___init__ flowest))
def fnumber_in : Fn := (frz 0 (runS 2 5 (dennumber_in ftrimmed fNumber___init__)))
def fNumber_polynomial : Fn := (runD 1 1 (denNumber_polynomial fleast_polynomial))
def fNumber_place : Fn := (runD 1 3 (denNumber_place fleast_field fplace_of))
def fField___init__ : FnS := (runS 1 1 (denField___init__))
def f_shortest : Fn := (runD 1 3 (den_shortest))
def fField_holding : FnS := (runS 2 5 (denField_holding fall_together f_shortest))
def fField_number : FnS := (runS 2 2 (denField_number fnumber_in))
def f_alike : Fn := (runD 2 3 (den_alike fwidened))
def fField_minus : FnS := (runS 3 3 (denField_minus f_alike felement_difference f_shortest))
def fField_product : FnS := (runS 3 3 (denField_product f_alike f_shortest felement_product))
def fField_inverted : FnS := (runS 2 6 (denField_inverted finverse ftimes flowest f_shortest))
def fwhole_element : Fn := (runD 1 1 (denwhole_element))
def f_cross : FnS := (runS 3 3 (den_cross fField_minus fField_product))
def fline_shape : FnS := (runS 3 5 (denline_shape fField_minus f_cross))
def f_meets_of_lines : FnS := (runS 3 7 (den_meets_of_lines f_cross fField_inverted fField_product))
def fshape_meets : FnS := (runS 3 3 (denshape_meets f_meets_of_lines))
def f_points_in : FnS := (runS 2 6 (den_points_in fField_holding))
def f_shape : FnS := (runS 3 3 (den_shape fline_shape))
def f_two_shapes : FnS := (runS 3 5 (den_two_shapes f_points_in f_shape))
def fmeets : Fn := (pln (runS 2 7 (denmeets fField___init__ f_two_shapes fshape_meets fField_number)))
def f_law_gcd : Fn := (runD 2 6 (den_law_gcd))
def f_law_bits : Fn := (runD 2 4 (den_law_bits))
def f_law_times : Fn := (runD 3 7 (den_law_times f_law_bits))
def f_law_odd : Fn := (runD 1 3 (den_law_odd))
def f_law_turned : Fn := (runD 2 4 (den_law_turned f_law_odd))
def f_law_conjugates : Fn := (runD 1 4 (den_law_conjugates f_law_turned))
def f_law_sign : Fn := (runD 2 8 (den_law_sign))
def f_law_less : Fn := (runD 3 4 (den_law_less f_law_sign))
def f_law_primitive : Fn := (runD 1 3 (den_law_primitive f_law_gcd))
def f_law_least : Fn := (runD 3 12 (den_law_least f_law_times f_law_conjugates f_law_primitive))
def f_law_place : Fn := (runD 2 3 (den_law_place f_law_conjugates f_law_less))
def f_law_is : Fn := (runD 4 6 (den_law_is fNumber_polynomial f_law_least fNumber_place f_law_place))
def f_law_line : Fn := (runD 2 4 (den_law_line))
def f_law_crossing : Fn := (runD 2 11 (den_law_crossing))
def f_law_made_point : Fn := (runD 1 1 (den_law_made_point fNumber___init__))
def f_law_are : Fn := (runD 2 6 (den_law_are f_law_is))
def f_law_point : FnT := (runO 2 2 (den_law_point f_law_take))
def f_law_two_points : FnT := (runO 2 4 (den_law_two_points f_law_point))
def flaw : OS := (denlaw f_law_two_points f_law_take f_law_line f_law_crossing f_law_made_point fmeets f_law_are)
end KW

/-! plain functions, worked out: equations for simp -/
namespace DN
open PySem PySem.Spec PyProof.Rows L2 KG
section
variable {i j l n np : Nat} {ρ : List Sl} {d x y : D} {ds es : List D} {da db dc : List Sl → Option D} {das : List Sl → Option (List D)} {s t : List Sl → Option Out} {c e : List Sl → Option Bool}
/-- not by definition alone: simp then knows that it changed something, and doesn't look behind a bind -/
theorem nd {α : Sort _} {a b : α} (h : a = b) : a = b := h
@[simp] theorem e_bind {α β : Type} (a : α) (f : α → Option β) : (some a).bind f = f a := nd rfl
abbrev Wt {γ : Sort _} (f : γ) : Type := Unit
/-- bind; what follows is no argument that simp may change: the last one depends on it -/
def _root_.Option.bd {α β : Type} (a : Option α) (f : α → Option β) (w : Wt f := ()) : Option β := a.bind f
@[simp] theorem e_bd {α β : Type} (a : α) (f : α → Option β) (w : Wt f) : (some a).bd f w = f a := nd rfl
@[simp] theorem e_bd0 {α β : Type} (f : α → Option β) (w : Wt f) : (none : Option α).bd f w = none := nd rfl
@[simp] theorem e_dK : dK d ρ = some d := nd rfl
@[simp] theorem e_d2 {f : D → D → Option D} : d2 f da db ρ = (da ρ).bd fun a => (db ρ).bd fun b => f a b := nd rfl
@[simp] theorem e_d1 {f : D → Option D} : d1 f da ρ = (da ρ).bd f := nd rfl
@[simp] theorem e_a0 : a0 ρ = some [] := nd rfl
@[simp] theorem e_ac : ac da das ρ = (da ρ).bd fun x => (das ρ).bd fun xs => some (x :: xs) := nd rfl
@[simp] theorem e_dTup : dTup das ρ = (das ρ).bd fun ds => if decide (ds.length ≤ szB) then some (.tup ds) else none := nd rfl
@[simp] theorem e_dLst : dLst das ρ = (das ρ).bd fun ds => if decide (ds.length ≤ szB) then some (.lst ds) else none := nd rfl
@[simp] theorem e_p0 : p0 ρ = some none := nd rfl
@[simp] theorem e_p1 : p1 da ρ = (da ρ).bd asI := nd rfl
@[simp] theorem e_dSl {dl dh : List Sl → Option (Option Int)} : dSl da dl dh ρ = (da ρ).bd fun x => (dl ρ).bd fun l => (dh ρ).bd fun u => fSl x l u := nd rfl
@[simp] theorem e_dAsB : dAsB da ρ = (da ρ).bd asB := nd rfl
@[simp] theorem e_dTru : dTru da ρ = (da ρ).bd fTru := nd rfl
@[simp] theorem e_bNot : bNot c ρ = (c ρ).bd fun b => some (!b) := nd rfl
@[simp] theorem e_bAnd : bAnd c e ρ = (c ρ).bd fun b => if b then e ρ else some false := nd rfl
@[simp] theorem e_bOr : bOr c e ρ = (c ρ).bd fun b => if b then some true else e ρ := nd rfl
@[simp] theorem e_vAnd : vAnd da db ρ = (da ρ).bd fun x => (asB x).bd fun b => if b then db ρ else some (.bl false) := nd rfl
@[simp] theorem e_vOr : vOr da db ρ = (da ρ).bd fun x => (asB x).bd fun b => if b then some (.bl true) else db ρ := nd rfl
@[simp] theorem e_dIfE : dIfE c da db ρ = (c ρ).bd fun b => if b then da ρ else db ρ := nd rfl
@[simp] theorem e_dChain {f g : D → D → Option D} : dChain f g da db dc ρ = (da ρ).bd fun a => (db ρ).bd fun b => (f a b).bd fun z => (asB z).bd fun k => if k then (dc ρ).bd fun c => g b c else some (.bl false) := nd rfl
@[simp] theorem e_dCall {f : List D → Option D} : dCall f das ρ = (das ρ).bd f := nd rfl
@[simp] theorem e_iSeq : iSeq da ρ = (da ρ).bd seqD := nd rfl
@[simp] theorem e_iRevD : iRevD da ρ = (da ρ).bd fun x => (seqD x).bd fun ds => some ds.reverse := nd rfl
@[simp] theorem e_iRng {f : List D → Option (List D)} : iRng f das ρ = (das ρ).bd f := nd rfl
@[simp] theorem e_bYes : bYes ρ = some true := nd rfl
@[simp] theorem e_sSet : sSet i da ρ = (da ρ).bd fun d => some (.nx (ρ.set i (.val d))) := nd rfl
@[simp] theorem e_sAsg {g : D → List Sl → Option (List Sl)} : sAsg da g ρ = (da ρ).bd fun d => (g d ρ).bd fun ρ' => some (.nx ρ') := nd rfl
@[simp] theorem e_sAsg2 {g h : D → List Sl → Option (List Sl)} : sAsg2 da g h ρ = (da ρ).bd fun d => (g d ρ).bd fun ρ1 => (h d ρ1).bd fun ρ' => some (.nx ρ') := nd rfl
@[simp] theorem e_sRet : sRet da ρ = (da ρ).bd fun d => some (.rt d) := nd rfl
@[simp] theorem e_sRetN : sRetN ρ = some (.rt .non) := nd rfl
@[simp] theorem e_sNext : sNext ρ = some (.nx ρ) := nd rfl
@[simp] theorem e_sBrk : sBrk ρ = some (.bk ρ) := nd rfl
@[simp] theorem e_sCnt : sCnt ρ = some (.ct ρ) := nd rfl
@[simp] theorem e_sNone : sNone ρ = none := nd rfl
@[simp] theorem e_dNev : dNev ρ = none := nd rfl
@[simp] theorem e_sSeq : sSeq s t ρ = (s ρ).bd fun o => match o with
  | .nx ρ' => t ρ'
  | o => some o := nd rfl
@[simp] theorem e_sIf : sIf c s t ρ = (c ρ).bd fun b => if b then s ρ else t ρ := nd rfl
@[simp] theorem e_sFor {di : List Sl → Option (List D)} {g : D → List Sl → Option (List Sl)} : sFor di g s ρ = (di ρ).bd fun ds => forD g s ds ρ := nd rfl
@[simp] theorem e_forD0 {g : D → List Sl → Option (List Sl)} : forD g s [] ρ = some (.nx ρ) := nd rfl
@[simp] theorem e_forD1 {g : D → List Sl → Option (List Sl)} : forD g s (d :: ds) ρ = (g d ρ).bd fun ρ1 => (s ρ1).bd fun o => match o with
    | .nx ρ2 => forD g s ds ρ2
    | .ct ρ2 => forD g s ds ρ2
    | .bk ρ2 => some (.nx ρ2)
    | .rt d => some (.rt d) := nd rfl
@[simp] theorem e_while : whileD c s (n + 1) ρ = (c ρ).bd fun b => if b then (s ρ).bd fun o => match o with
      | .nx ρ2 => whileD c s n ρ2
      | .ct ρ2 => whileD c s n ρ2
      | .bk ρ2 => some (.nx ρ2)
      | .rt d => some (.rt d)
    else some (.nx ρ) := nd rfl
@[simp] theorem e_sNew : sNew i das ρ = (das ρ).bd fun ds => if decide (ds.length ≤ szB) then some (.nx (ρ.set i (.own ds))) else none := nd rfl
@[simp] theorem e_sApp : sApp i da ρ = (ownD i ρ).bd fun ds => (da ρ).bd fun d => if decide (ds.length ≤ szB) then some (.nx (ρ.set i (.own (ds ++ [d])))) else none := nd rfl
@[simp] theorem e_sPop : sPop i j ρ = (ownD j ρ).bd fun ds => (ds[ds.length - 1]?).bd fun d => some (.nx ((ρ.set j (.own ds.dropLast)).set i (.val d))) := nd rfl
@[simp] theorem e_sFrz : sFrz i s ρ = (ownD i ρ).bd fun ds => s (ρ.set i (.val (.lst ds))) := nd rfl
@[simp] theorem e_dIxO : dIxO i db ρ = (ownD i ρ).bd fun ds => (db ρ).bd fun b => fIx (.lst ds) b := nd rfl
@[simp] theorem e_dLenO : dLenO i ρ = (ownD i ρ).bd fun ds => some (.int ds.length) := nd rfl
@[simp] theorem e_dTruO : dTruO i ρ = (ownD i ρ).bd fun ds => some (!ds.isEmpty) := nd rfl
@[simp] theorem e_sAug {f : Int → Int → Int} : sAug i f da ρ = (dV i ρ).bd fun a => (da ρ).bd fun b => (fI20 f a b).bd fun d => some (.nx (ρ.set i (.val d))) := nd rfl
@[simp] theorem e_sNewC {dl : List Sl → Option (List D)} : sNewC i dl ρ = (dl ρ).bd fun ds => some (.nx (ρ.set i (.own ds))) := nd rfl
@[simp] theorem e_runD : runD np n s ds = if ds.length == np then (s (start0 n ds)).bd fun o => match o with
    | .rt d => some d
    | .nx _ => some .non
    | _ => none
  else none := nd rfl
@[simp] theorem e_gN : gN i d ρ = some (ρ.set i (.val d)) := nd rfl
@[simp] theorem e_gnil : gnil [] ρ = some ρ := nd rfl
@[simp] theorem e_gcons {g : D → List Sl → Option (List Sl)} {gs : List D → List Sl → Option (List Sl)} : gcons g gs (d :: ds) ρ = (g d ρ).bd (gs ds) := nd rfl
@[simp] theorem e_gTu {gs : List D → List Sl → Option (List Sl)} : gTu n gs (.tup ds) ρ = if ds.length == n then gs ds ρ else none := nd rfl
@[simp] theorem e_lcD0 {g : D → List Sl → Option (List Sl)} : lcD g c da ρ [] = some [] := nd rfl
@[simp] theorem e_lcD1 {g : D → List Sl → Option (List Sl)} : lcD g c da ρ (d :: ds) = (g d ρ).bd fun ρ1 => (c ρ1).bd fun b => if b then (da ρ1).bd fun y => (lcD g c da ρ ds).bd fun r => some (y :: r) else lcD g c da ρ ds := nd rfl
@[simp] theorem e_dLc {di : List Sl → Option (List D)} {g : D → List Sl → Option (List Sl)} {vs : List Nat} : dLc di g c da vs ρ = (di ρ).bd fun ds => if decide (ds.length ≤ szB) then (lcD g c da (wipeD ρ vs) ds).bd fun r => some (.lst r) else none := nd rfl
@[simp] theorem e_dLcN {di : List Sl → Option (List D)} {g : D → List Sl → Option (List Sl)} {vs : List Nat} : dLcN di g da vs ρ = (di ρ).bd fun ds => if decide (ds.length ≤ szB) then lcD g bYes da (wipeD ρ vs) ds else none := nd rfl
@[simp] theorem e_dLc2 {di di1 : List Sl → Option (List D)} {g g1 : D → List Sl → Option (List Sl)} {vs vs1 : List Nat} : dLc2 di g di1 g1 da vs vs1 ρ = (di ρ).bd fun ds => if decide (ds.length ≤ 100) then (lc1D g di1 g1 da vs1 (wipeD ρ vs) ds).bd fun r => some (.lst r) else none := nd rfl
@[simp] theorem e_lc10 {di1 : List Sl → Option (List D)} {g g1 : D → List Sl → Option (List Sl)} {vs1 : List Nat} : lc1D g di1 g1 da vs1 ρ [] = some [] := nd rfl
@[simp] theorem e_lc11 {di1 : List Sl → Option (List D)} {g g1 : D → List Sl → Option (List Sl)} {vs1 : List Nat} : lc1D g di1 g1 da vs1 ρ (d :: ds) = (g d ρ).bd fun ρ1 => (di1 ρ1).bd fun es => if decide (es.length ≤ 100) then (lc2D da g1 (wipeD (noOwn ρ1) vs1) es).bd fun a => (lc1D g di1 g1 da vs1 ρ ds).bd fun r => some (a ++ r) else none := nd rfl
@[simp] theorem e_lc20 {g1 : D → List Sl → Option (List Sl)} : lc2D da g1 ρ [] = some [] := nd rfl
@[simp] theorem e_lc21 {g1 : D → List Sl → Option (List Sl)} : lc2D da g1 ρ (d :: ds) = (g1 d ρ).bd fun ρ1 => (da ρ1).bd fun y => (lc2D da g1 ρ ds).bd fun r => some (y :: r) := nd rfl
@[simp] theorem e_noOwn : noOwn ρ = ρ.map unOwn := nd rfl
@[simp] theorem e_unV : unOwn (.val d) = .val d := nd rfl
@[simp] theorem e_unO : unOwn .off = .off := nd rfl
@[simp] theorem e_unW : unOwn (.own ds) = .off := nd rfl
@[simp] theorem e_wipe0 : wipeD ρ [] = ρ := nd rfl
@[simp] theorem e_wipe1 {vs : List Nat} : wipeD ρ (i :: vs) = (wipeD ρ vs).set i .off := nd rfl
@[simp] theorem e_sPar : sPar i j das ρ = (das ρ).bd fun l => match l with
  | [a, b] => some (.nx ((ρ.set i (.val a)).set j (.val b)))
  | _ => none := nd rfl
@[simp] theorem e_start : start0 n ds = ds.map Sl.val ++ List.replicate (n - ds.length) Sl.off := nd rfl
@[simp] theorem e_tail {o : Option D} : ((o.bind fun d => some (Out.rt d)).bind fun o => match o with
    | .rt d => some d
    | .nx _ => some .non
    | _ => none) = o := by cases o <;> rfl
@[simp] theorem ofS_inj (a b : String) : (Str.ofString a = Str.ofString b) = (a = b) := propext ⟨fun h => by
  rw [Str.ofString_eq_toList, Str.ofString_eq_toList] at h
  have h1 : a.toList.map Char.toNat = b.toList.map Char.toNat := by
    have := congrArg (fun z : Str => z.cps.toList) h
    simpa using this
  have inj : ∀ {x y : List Char}, x.map Char.toNat = y.map Char.toNat → x = y := fun {x} => by
    induction x with
    | nil => intro y h; cases y with
      | nil => rfl
      | cons c y => cases h
    | cons c x ih =>
      intro y h
      cases y with
      | nil => cases h
      | cons d y =>
        simp only [List.map_cons, List.cons.injEq] at h
        have e : c = d := by
          have := h.1
          apply Char.ext
          apply UInt32.toNat.inj
          exact this
        rw [e, ih h.2]
  exact String.toList_inj.mp (inj h1), fun h => by rw [h]⟩
/-! values -/
@[simp] theorem v_dV (h : ρ[i]? = some (.val d)) : dV i ρ = some d := by unfold dV; rw [h]
@[simp] theorem v_own (h : ρ[i]? = some (.own ds)) : ownD i ρ = some ds := by unfold ownD; rw [h]
@[simp] theorem v_add (a b : Int) : fAdd (.int a) (.int b) = some (.int (a + b)) := nd rfl
@[simp] theorem v_i20 (f : Int → Int → Int) (a b : Int) : fI20 f (.int a) (.int b) = some (.int (f a b)) := nd rfl
@[simp] theorem v_i2 (c : Int → Int → Bool) (f : Int → Int → Int) (a b : Int) : fI2 c f (.int a) (.int b) = if c a b then some (.int (f a b)) else none := nd rfl
@[simp] theorem v_b20 (f : Int → Int → Bool) (a b : Int) : fB20 f (.int a) (.int b) = some (.bl (f a b)) := nd rfl
@[simp] theorem v_i1 (f : Int → Int) (a : Int) : fI1 f (.int a) = some (.int (f a)) := nd rfl
@[simp] theorem v_mul (a b : Int) : fMul (.int a) (.int b) = if cMul a b then some (.int (a * b)) else none := nd rfl
@[simp] theorem v_addT (a b : List D) : fAdd (.tup a) (.tup b) = if decide (a.length + b.length ≤ szB) then some (.tup (a ++ b)) else none := nd rfl
@[simp] theorem v_addL (a b : List D) : fAdd (.lst a) (.lst b) = if decide (a.length + b.length ≤ szB) then some (.lst (a ++ b)) else none := nd rfl
@[simp] theorem v_eqI (a b : Int) : fEq (.int a) (.int b) = some (.bl (decide (a = b))) := nd rfl
@[simp] theorem v_neI (a b : Int) : fNe (.int a) (.int b) = some (.bl (!decide (a = b))) := nd rfl
@[simp] theorem v_dNot (b : Bool) : dNot (.bl b) = some (.bl (!b)) := nd rfl
@[simp] theorem v_asB (b : Bool) : asB (.bl b) = some b := nd rfl
@[simp] theorem v_asI (a : Int) : asI (.int a) = some (some a) := nd rfl
@[simp] theorem v_ixT (a : Int) : fIx (.tup ds) (.int a) = L2.atI ds a := nd rfl
@[simp] theorem v_ixL (a : Int) : fIx (.lst ds) (.int a) = L2.atI ds a := nd rfl
@[simp] theorem v_lenT : fLen [.tup ds] = some (.int ds.length) := nd rfl
@[simp] theorem v_lenL : fLen [.lst ds] = some (.int ds.length) := nd rfl
@[simp] theorem v_tupL : fTuple [.lst ds] = some (.tup ds) := nd rfl
@[simp] theorem v_tupT : fTuple [.tup ds] = some (.tup ds) := nd rfl
@[simp] theorem v_ltA (a b : Int) : fLtA (.int a) (.int b) = some (.bl (decide (a < b))) := nd rfl
@[simp] theorem v_gcd (a b : Int) : fGcd [.int a, .int b] = some (.int ((Nat.gcd a.natAbs b.natAbs : Nat) : Int)) := nd rfl
@[simp] theorem v_abs (a : Int) : fAbs [.int a] = some (.int (if a < 0 then -a else a)) := nd rfl
@[simp] theorem v_max (a b : Int) : fMax [.int a, .int b] = some (.int (if b > a then b else a)) := nd rfl
@[simp] theorem v_min (a b : Int) : fMin [.int a, .int b] = some (.int (if b < a then b else a)) := nd rfl
@[simp] theorem v_intL0 : intL [] = some [] := nd rfl
@[simp] theorem v_intL1 (a : Int) : intL (.int a :: ds) = (intL ds).bd fun r => some (a :: r) := nd rfl
@[simp] theorem v_anyT : fAny [.tup ds] = (intL ds).bd fun ns => some (.bl (ns.any (· != 0))) := nd rfl
@[simp] theorem v_anyL : fAny [.lst ds] = (bools ds).bd fun bs => some (.bl (bs.any id)) := nd rfl
@[simp] theorem v_bools0 : bools [] = some [] := nd rfl
@[simp] theorem v_bools1 (b : Bool) : bools (.bl b :: ds) = (bools ds).bd fun r => some (b :: r) := nd rfl
@[simp] theorem v_seqT : seqD (.tup ds) = some ds := nd rfl
@[simp] theorem v_seqL : seqD (.lst ds) = some ds := nd rfl
@[simp] theorem v_slT (a b : Option Int) : fSl (.tup ds) a b = some (.tup (cutD ds a b)) := nd rfl
@[simp] theorem v_slL (a b : Option Int) : fSl (.lst ds) a b = some (.lst (cutD ds a b)) := nd rfl
@[simp] theorem v_bits (a : Int) : fBits (.int a) = some (.int (Builtin.Int.intBits a : Nat)) := nd rfl
@[simp] theorem v_truI (a : Int) : fTru (.int a) = some (a != 0) := nd rfl
@[simp] theorem v_truT : fTru (.tup ds) = some (!ds.isEmpty) := nd rfl
@[simp] theorem v_truL : fTru (.lst ds) = some (!ds.isEmpty) := nd rfl
@[simp] theorem v_truB (b : Bool) : fTru (.bl b) = some b := nd rfl
@[simp] theorem v_zip0 : zipD [] es = [] := nd rfl
@[simp] theorem v_zip1 : zipD ds [] = [] := by cases ds <;> rfl
@[simp] theorem v_zip2 : zipD (x :: ds) (y :: es) = .tup [x, y] :: zipD ds es := nd rfl
@[simp] theorem v_en0 (k : Int) : enD k [] = [] := nd rfl
@[simp] theorem v_en1 (k : Int) : enD k (d :: ds) = .tup [.int k, d] :: enD (k + 1) ds := nd rfl
@[simp] theorem v_iZip : iZipD das ρ = (das ρ).bd fun l => match l with
  | [.tup a, .tup b] => some (zipD a b)
  | [.lst a, .lst b] => some (zipD a b)
  | [.tup a, .lst b] => some (zipD a b)
  | _ => none := nd rfl
@[simp] theorem v_iEnum : iEnumD das ρ = (das ρ).bd fun l => match l with
  | [.tup ds] => some (enD 0 ds)
  | [.lst ds] => some (enD 0 ds)
  | _ => none := nd rfl
@[simp] theorem v_back : fBack (.lst ds) = some (.lst ds.reverse) := nd rfl
theorem v_r1 (a : Int) (h : inR a = true) : r1D [.int a] = some (upI 0 a.toNat) := by simp [r1D, h]
theorem v_r2 (a b : Int) (h : inR a = true) (h' : inR b = true) : r2D [.int a, .int b] = some (upI a (b - a).toNat) := by simp [r2D, h, h']
@[simp] theorem v_up0 (a : Int) : upI a 0 = [] := nd rfl
@[simp] theorem v_up1 (a : Int) (n : Nat) : upI a (n + 1) = .int a :: upI (a + 1) n := nd rfl
theorem v_atN (k : Nat) (h : ds[k]? = some x) : L2.atI ds (k : Int) = some x := L2.atI_nat h
@[simp] theorem v_atI {k : Int} (h0 : 0 ≤ k) (h : ds[k.toNat]? = some x) : L2.atI ds k = some x := by
  have := L2.atI_nat (xs := ds) (j := k.toNat) h
  rwa [Int.toNat_of_nonneg h0] at this
@[simp] theorem v_at0 : L2.atI (x :: ds) 0 = some x := L2.atI_nat (j := 0) rfl
@[simp] theorem v_at1 : L2.atI (x :: y :: ds) 1 = some y := L2.atI_nat (j := 1) rfl
@[simp] theorem v_at2 {z : D} : L2.atI (x :: y :: z :: ds) 2 = some z := L2.atI_nat (j := 2) rfl
@[simp] theorem v_at3 {z w : D} : L2.atI (x :: y :: z :: w :: ds) 3 = some w := L2.atI_nat (j := 3) rfl
@[simp] theorem c_div2 (a : Int) : cDiv a 2 = true := by
  unfold cDiv
  decide
@[simp] theorem cut_nn {α : Type} (xs : List α) : cutD xs none none = xs := by simp [cutD, HT.sIx]
@[simp] theorem cut_lo {α : Type} (xs : List α) (v : Int) (h : 0 ≤ v) : cutD xs (some v) none = xs.drop v.toNat := by
  simp only [cutD, HT.sIx, if_neg (show ¬ v < 0 by omega)]
  by_cases z : v.toNat ≤ xs.length
  · rw [Nat.min_eq_left z, List.take_of_length_le (by simp)]
  · rw [Nat.min_eq_right (by omega), List.drop_eq_nil_of_le (Nat.le_refl _), List.drop_eq_nil_of_le (by omega)]
    simp
@[simp] theorem cut_hi {α : Type} (xs : List α) (v : Int) (h : 0 ≤ v) : cutD xs none (some v) = xs.take v.toNat := by
  simp only [cutD, HT.sIx, if_neg (show ¬ v < 0 by omega)]
  rw [List.drop_zero, Nat.sub_zero]
  by_cases z : v.toNat ≤ xs.length
  · rw [Nat.min_eq_left z]
  · rw [Nat.min_eq_right (by omega), List.take_of_length_le (Nat.le_refl _), List.take_of_length_le (by omega)]
@[simp] theorem cut_lohi {α : Type} (xs : List α) (v u : Int) (h : 0 ≤ v) (h' : 0 ≤ u) : cutD xs (some v) (some u) = (xs.take u.toNat).drop v.toNat := by
  simp only [cutD, HT.sIx, if_neg (show ¬ v < 0 by omega), if_neg (show ¬ u < 0 by omega)]
  apply List.ext_getElem?
  intro i
  rw [List.getElem?_take, List.getElem?_drop, List.getElem?_drop, List.getElem?_take]
  by_cases c : i < min u.toNat xs.length - min v.toNat xs.length
  · rw [if_pos c, if_pos (by omega), Nat.min_eq_left (by omega)]
  · rw [if_neg c]
    by_cases d : v.toNat + i < u.toNat
    · rw [if_pos d]
      by_cases e : v.toNat + i < xs.length
      · omega
      · rw [List.getElem?_eq_none (by omega)]
    · rw [if_neg d]
@[simp] theorem cMul_lit {a b : Int} (h : a.natAbs < 18446744073709551616) (h' : b.natAbs < 18446744073709551616) : cMul a b = true := by
  have l : ∀ {x : Int}, x.natAbs < 18446744073709551616 → x.natAbs.log2 ≤ 64 := fun {x} hx => by
    by_cases z : x.natAbs = 0
    · rw [z, show Nat.log2 0 = 0 by decide]; exact Nat.zero_le _
    · exact Nat.le_of_lt ((Nat.log2_lt z).mpr hx)
  have h1 := l h
  have h2 := l h'
  exact decide_eq_true (by omega)
def rv1 : D → Option (List D)
  | .int j => if inR j then some (dnI j.toNat) else none
  | _ => none
@[simp] theorem e_iRevR1 : iRevR1 da ρ = (da ρ).bd rv1 := by
  unfold iRevR1
  congr
@[simp] theorem v_rv1 (a : Int) : rv1 (.int a) = if inR a then some (dnI a.toNat) else none := nd rfl
@[simp] theorem v_r1' (a : Int) : r1D [.int a] = if inR a then some (upI 0 a.toNat) else none := nd rfl
@[simp] theorem v_r2' (a b : Int) : r2D [.int a, .int b] = if inR a && inR b then some (upI a (b - a).toNat) else none := nd rfl
@[simp] theorem inR_of {a : Int} (h1 : -4611686018427387904 ≤ a) (h2 : a < 4611686018427387904) : inR a = true := by
  unfold inR rngB
  rw [decide_eq_true h1, decide_eq_true h2]; rfl
@[simp] theorem v_dn0 : dnI 0 = [] := nd rfl
@[simp] theorem v_dn1 (n : Nat) : dnI (n + 1) = .int n :: dnI n := nd rfl
@[simp] theorem cShl_1 {b : Int} (h0 : 0 ≤ b) (h1 : b ≤ 100000) : cShl 1 b = true := by
  unfold cShl
  rw [decide_eq_true h0, decide_eq_true h1]; decide
@[simp] theorem cShr_0 {a b : Int} (h0 : 0 ≤ b) : cShr a b = true := decide_eq_true h0
@[simp] theorem v_rep0 {k : Int} (h0 : -1000000 ≤ k) (h1 : k ≤ 1000) : fMul (.tup [d]) (.int k) = some (.tup (List.replicate k.toNat d)) := by
  have e : ∀ n : Nat, (List.replicate n [d]).flatten = List.replicate n d := fun n => by
    induction n with
    | zero => rfl
    | succ n ih => rw [List.replicate_succ, List.flatten_cons, ih, List.replicate_succ]; rfl
  have q : fMul (.tup [d]) (.int k) = if !([d] : List D).isEmpty && decide (-1000000 ≤ k) && decide (k ≤ 1000) && decide (([d] : List D).length ≤ 1000) then some (.tup (List.replicate k.toNat [d]).flatten) else none := rfl
  rw [q, decide_eq_true h0, decide_eq_true h1, e]
  rfl
@[simp] theorem sz_dec {n : Nat} (h : n ≤ 100000) : decide (n ≤ szB) = true := decide_eq_true h
@[simp] theorem sz_le' {n : Nat} (h : n ≤ 100000) : (n ≤ szB) = True := eq_true h
end
end DN

/-! the same for code with cells, and for code that draws -/
namespace DN
open PySem PySem.Spec PyProof.Rows L2 KG
section
variable {i j l n np t : Nat} {ρ : List Sl} {μ : List Cell} {d x y : D} {ds es : List D} {da db dc : SD D} {das : SD (List D)} {s u : ZS} {c e : SD Bool} {m f : Str}
@[simp] theorem y_lf {α : Type} {den : List Sl → Option α} : lf den ρ μ = (den ρ).bd fun d => some (d, μ) := nd rfl
@[simp] theorem y_z2 {f : D → D → Option D} : z2 f da db ρ μ = (da ρ μ).bd fun p => (db ρ p.2).bd fun q => (f p.1 q.1).bd fun d => some (d, q.2) := nd rfl
@[simp] theorem y_z1 {f : D → Option D} : z1 f da ρ μ = (da ρ μ).bd fun p => (f p.1).bd fun d => some (d, p.2) := nd rfl
@[simp] theorem y_y0 : y0 ρ μ = some ([], μ) := nd rfl
@[simp] theorem y_yc : yc da das ρ μ = (da ρ μ).bd fun p => (das ρ p.2).bd fun q => some (p.1 :: q.1, q.2) := nd rfl
@[simp] theorem y_tup : zTup das ρ μ = (das ρ μ).bd fun p => if decide (p.1.length ≤ szB) then some (.tup p.1, p.2) else none := nd rfl
@[simp] theorem y_lst : zLst das ρ μ = (das ρ μ).bd fun p => if decide (p.1.length ≤ szB) then some (.lst p.1, p.2) else none := nd rfl
@[simp] theorem y_asB : zAsB da ρ μ = (da ρ μ).bd fun p => (asB p.1).bd fun b => some (b, p.2) := nd rfl
@[simp] theorem y_tru : zTru da ρ μ = (da ρ μ).bd fun p => (fTru p.1).bd fun b => some (b, p.2) := nd rfl
@[simp] theorem y_not : zNot c ρ μ = (c ρ μ).bd fun p => some (!p.1, p.2) := nd rfl
@[simp] theorem y_and : zAnd c e ρ μ = (c ρ μ).bd fun p => if p.1 then e ρ p.2 else some (false, p.2) := nd rfl
@[simp] theorem y_or : zOr c e ρ μ = (c ρ μ).bd fun p => if p.1 then some (true, p.2) else e ρ p.2 := nd rfl
@[simp] theorem y_ifE : zIfE c da db ρ μ = (c ρ μ).bd fun p => if p.1 then da ρ p.2 else db ρ p.2 := nd rfl
@[simp] theorem y_call {f : FnS} : zCall f das ρ μ = (das ρ μ).bd fun p => f p.1 p.2 := nd rfl
@[simp] theorem y_callP {f : List D → Option D} : zCallP f das ρ μ = (das ρ μ).bd fun p => (f p.1).bd fun d => some (d, p.2) := nd rfl
@[simp] theorem y_fld : zFld t f da ρ μ = (da ρ μ).bd fun p => (insAt p.2 t p.1).bd fun q => (q.2.lookup f).bd fun v => some (v, p.2) := nd rfl
@[simp] theorem y_meth {g : FnS} : zMeth t m g da das ρ μ = (da ρ μ).bd fun p => (insAt p.2 t p.1).bd fun q => if (q.2.lookup m).isNone then (das ρ p.2).bd fun r => g (p.1 :: r.1) r.2 else none := nd rfl
@[simp] theorem y_dict : zDict ρ μ = some (.ref μ.length, μ ++ [.dic []]) := nd rfl
@[simp] theorem y_make {g : FnS} : zMake t g das ρ μ = (das ρ μ).bd fun p => (g (.ref p.2.length :: p.1) (p.2 ++ [.ins t []])).bd fun r => match r.1 with
  | .non => some (.ref p.2.length, r.2)
  | _ => none := nd rfl
@[simp] theorem y_makeD {g : FnS} {dvs : List D} : zMakeD t g das dvs ρ μ = (das ρ μ).bd fun p => (g (.ref p.2.length :: (p.1 ++ dvs)) (p.2 ++ [.ins t []])).bd fun r => match r.1 with
  | .non => some (.ref p.2.length, r.2)
  | _ => none := nd rfl
@[simp] theorem y_set : ySet i da ρ μ = (da ρ μ).bd fun p => some (.nx (ρ.set i (.val p.1)), p.2) := nd rfl
@[simp] theorem y_lg {g : D → List Sl → Option (List Sl)} : lg g d ρ μ = (g d ρ).bd fun r => some (r, μ) := nd rfl
@[simp] theorem y_att : yAtt t f da d ρ μ = (da ρ μ).bd fun p => (insAt p.2 t p.1).bd fun q => if decide (q.2.length < 100) then some (ρ, p.2.set q.1 (.ins t (putD f d q.2))) else none := nd rfl
@[simp] theorem y_key : yKey da db d ρ μ = (da ρ μ).bd fun p => (db ρ p.2).bd fun q => (keyOf q.1).bd fun k => (dicAt q.2 p.1).bd fun c => if decide (c.2.length < 10000) then some (ρ, q.2.set c.1 (.dic (putK c.2 k q.1 d))) else none := nd rfl
@[simp] theorem y_gnil : ygnil [] ρ μ = some (ρ, μ) := nd rfl
@[simp] theorem y_gcons {g : ZG} {gs : List D → List Sl → List Cell → Option (List Sl × List Cell)} : ygcons g gs (d :: ds) ρ μ = (g d ρ μ).bd fun p => gs ds p.1 p.2 := nd rfl
@[simp] theorem y_gTu {gs : List D → List Sl → List Cell → Option (List Sl × List Cell)} : ygTu n gs (.tup ds) ρ μ = if ds.length == n then gs ds ρ μ else none := nd rfl
@[simp] theorem y_asg {g : ZG} : yAsg da g ρ μ = (da ρ μ).bd fun p => (g p.1 ρ p.2).bd fun q => some (.nx q.1, q.2) := nd rfl
@[simp] theorem y_ret : yRet da ρ μ = (da ρ μ).bd fun p => some (.rt p.1, p.2) := nd rfl
@[simp] theorem y_seq : ySeq s u ρ μ = (s ρ μ).bd fun p => match p.1 with
  | .nx ρ' => u ρ' p.2
  | _ => some p := nd rfl
@[simp] theorem y_if : yIf c s u ρ μ = (c ρ μ).bd fun p => if p.1 then s ρ p.2 else u ρ p.2 := nd rfl
@[simp] theorem y_drop : yDrop da ρ μ = (da ρ μ).bd fun p => some (.nx ρ, p.2) := nd rfl
@[simp] theorem y_for {di : ZL} {g : D → List Sl → Option (List Sl)} : yFor di g s ρ μ = (di ρ μ).bd fun p => zforD g s p.1 ρ p.2 := nd rfl
@[simp] theorem y_for0 {g : D → List Sl → Option (List Sl)} : zforD g s [] ρ μ = some (.nx ρ, μ) := nd rfl
@[simp] theorem y_for1 {g : D → List Sl → Option (List Sl)} : zforD g s (d :: ds) ρ μ = (g d ρ).bd fun ρ1 => (s ρ1 μ).bd fun p => match p.1 with
    | .nx ρ2 => zforD g s ds ρ2 p.2
    | .ct ρ2 => zforD g s ds ρ2 p.2
    | .bk ρ2 => some (.nx ρ2, p.2)
    | .rt d => some (.rt d, p.2) := nd rfl
@[simp] theorem y_runS : runS np n s ds μ = if ds.length == np then (s (start0 n ds) μ).bd fun p => match p.1 with
    | .rt d => some (d, p.2)
    | .nx _ => some (.non, p.2)
    | _ => none
  else none := nd rfl
@[simp] theorem y_in {b : Bool} : zIn b da db ρ μ = (da ρ μ).bd fun p => (db ρ p.2).bd fun q => (keyOf p.1).bd fun k => (dicAt q.2 q.1).bd fun c => some (.bl (b != (getK c.2 k).isSome), q.2) := nd rfl
@[simp] theorem y_ixK : zIxK da db ρ μ = (da ρ μ).bd fun p => (db ρ p.2).bd fun q => (keyOf q.1).bd fun k => (dicAt q.2 p.1).bd fun c => (getK c.2 k).bd fun v => some (v, q.2) := nd rfl
@[simp] theorem y_sl {dl dh : SD (Option Int)} : zSl da dl dh ρ μ = (da ρ μ).bd fun p => (dl ρ p.2).bd fun q => (dh ρ q.2).bd fun r => (fSl p.1 q.1 r.1).bd fun d => some (d, r.2) := nd rfl
@[simp] theorem y_p1 : zp1 da ρ μ = (da ρ μ).bd fun p => (asI p.1).bd fun i => some (i, p.2) := nd rfl
@[simp] theorem y_lc0 {g : D → List Sl → Option (List Sl)} : zlcD g da ρ [] μ = some ([], μ) := nd rfl
@[simp] theorem y_lc1 {g : D → List Sl → Option (List Sl)} : zlcD g da ρ (d :: ds) μ = (g d ρ).bd fun ρ1 => (da ρ1 μ).bd fun p => (zlcD g da ρ ds p.2).bd fun r => some (p.1 :: r.1, r.2) := nd rfl
@[simp] theorem y_lc {di : ZL} {g : D → List Sl → Option (List Sl)} {vs : List Nat} : zLc di g da vs ρ μ = (di ρ μ).bd fun p => if decide (p.1.length ≤ szB) then (zlcD g da (wipeD ρ vs) p.1 p.2).bd fun r => some (.lst r.1, r.2) else none := nd rfl
@[simp] theorem y_iseq : ziSeq da ρ μ = (da ρ μ).bd fun p => (seqD p.1).bd fun ds => some (ds, p.2) := nd rfl
@[simp] theorem y_insAt {fs : List (Str × D)} (h : μ[i]? = some (.ins t fs)) : insAt μ t (.ref i) = some (i, fs) := by unfold insAt; simp [h]
@[simp] theorem y_dicAt {kvs : List (D × D)} (h : μ[i]? = some (.dic kvs)) : dicAt μ (.ref i) = some (i, kvs) := by unfold dicAt; simp [h]
@[simp] theorem y_frz {g : FnS} : frz t g ds = if noRefs ds then (g ds []).bd fun r => match r.1 with
    | .ref i => asNum t i r.2
    | _ => none
  else none := nd rfl
@[simp] theorem y_pln {g : FnS} : pln g ds = if noRefs ds then (g ds []).bd fun r => if noRef r.1 then some r.1 else none else none := nd rfl
@[simp] theorem y_numT {a b : D} : fNumF true (.num a b) = some a := nd rfl
@[simp] theorem y_numE {a b : D} : fNumF false (.num a b) = some b := nd rfl
@[simp] theorem y_dMakeN {g : FnS} {das : List Sl → Option (List D)} {dvs : List D} : dMakeN t g das dvs ρ = (das ρ).bd fun ds => if noRefs (ds ++ dvs) then (g (.ref 0 :: (ds ++ dvs)) [.ins t []]).bd fun r => match r.1 with
    | .non => asNum t 0 r.2
    | _ => none
  else none := nd rfl
@[simp] theorem y_dMethN {g : List D → Option D} {da : List Sl → Option D} {das : List Sl → Option (List D)} : dMethN g da das ρ = (da ρ).bd fun a => match a with
  | .num t e => (das ρ).bd fun ds => g (.num t e :: ds)
  | _ => none := nd rfl
@[simp] theorem y_isTup1 : fIsTup (.tup ds) = some (.bl true) := nd rfl
@[simp] theorem y_isNum {a b : D} : fIsNum (.num a b) = some (.bl true) := nd rfl
@[simp] theorem y_isBoolI {a : Int} : fIsBool (.int a) = some (.bl false) := nd rfl
@[simp] theorem y_noRefs0 : noRefs [] = true := nd rfl
@[simp] theorem y_noRefs1 : noRefs (d :: ds) = (noRef d && noRefs ds) := nd rfl
@[simp] theorem y_noRefI {a : Int} : noRef (.int a) = true := nd rfl
@[simp] theorem y_noRefS {a : Str} : noRef (.str a) = true := nd rfl
@[simp] theorem y_noRefT : noRef (.tup ds) = noRefs ds := nd rfl
@[simp] theorem y_noRefL : noRef (.lst ds) = noRefs ds := nd rfl
@[simp] theorem y_noRefN {a b : D} : noRef (.num a b) = (noRef a && noRef b) := nd rfl
@[simp] theorem k_get0 {k : NestedKey} : getK [] k = none := nd rfl
@[simp] theorem k_put0 {k : NestedKey} : putK [] k x y = [(x, y)] := nd rfl
theorem k_getH {k : NestedKey} {kvs : List (D × D)} (h : nk x = some k) : getK ((x, y) :: kvs) k = some y := by
  simp [getK, nkIs, h]
theorem k_getT {k k' : NestedKey} {kvs : List (D × D)} (h : nk x = some k') (h' : k' ≠ k) : getK ((x, y) :: kvs) k = getK kvs k := by
  simp [getK, nkIs, h, h']
@[simp] theorem n_nn : fIsN .non .non = some (.bl true) := nd rfl
@[simp] theorem n_tn : fIsN (.tup ds) .non = some (.bl false) := nd rfl
@[simp] theorem n_ln : fIsN (.lst ds) .non = some (.bl false) := nd rfl
@[simp] theorem n_in {a : Int} : fIsN (.int a) .non = some (.bl false) := nd rfl
@[simp] theorem n_notn : fNotN .non .non = some (.bl false) := nd rfl
@[simp] theorem n_nott : fNotN (.tup ds) .non = some (.bl true) := nd rfl
@[simp] theorem n_notl : fNotN (.lst ds) .non = some (.bl true) := nd rfl
@[simp] theorem n_noti {a : Int} : fNotN (.int a) .non = some (.bl true) := nd rfl
@[simp] theorem m_fld0 {f : Str} {v : D} {fs : List (Str × D)} : List.lookup f ((f, v) :: fs) = some v := by simp [List.lookup]
@[simp] theorem s_te : (Str.ofString "tower" = Str.ofString "element") = False := eq_false (by decide)
@[simp] theorem s_et : (Str.ofString "element" = Str.ofString "tower") = False := eq_false (by decide)
@[simp] theorem s_tk : (Str.ofString "tower" = Str.ofString "known_roots") = False := eq_false (by decide)
@[simp] theorem s_kt : (Str.ofString "known_roots" = Str.ofString "tower") = False := eq_false (by decide)
@[simp] theorem m_put0 {f : Str} {v : D} : putD f v [] = [(f, v)] := nd rfl
theorem m_put1 {f g : Str} {u v : D} {fs : List (Str × D)} : putD f v ((g, u) :: fs) = if g = f then (g, v) :: fs else (g, u) :: putD f v fs := nd rfl
@[simp] theorem m_asNum {a b : D} : asNum t 0 (.ins t [("tower", a), ("element", b)] :: μ) = if noRef a && noRef b then some (.num a b) else none := by
  show (if (t == t && noRef a && noRef b) = true then some (D.num a b) else none) = _
  simp
@[simp] theorem m_fld1 {f g : Str} {v : D} {fs : List (Str × D)} (h : (f = g) = False) : List.lookup f ((g, v) :: fs) = List.lookup f fs := by
  have h : f ≠ g := of_eq_false h
  simp [List.lookup, beq_eq_false_iff_ne.mpr h]
@[simp] theorem v_intA {a : Int} : fIntA [.int a] = some (.int a) := nd rfl
@[simp] theorem v_intB {b : Bool} : fIntA [.bl b] = some (.int (if b then 1 else 0)) := nd rfl
@[simp] theorem c_mod {a b : Int} (h : b ≠ 0) : cMod a b = true := decide_eq_true h
@[simp] theorem e_sSetIx {da db : List Sl → Option D} : sSetIx i da db ρ = (da ρ).bd fun d => (ownD i ρ).bd fun ds => (db ρ).bd fun j => match j with
  | .int k => (ixN ds.length k).bd fun n => some (.nx (ρ.set i (.own (ds.set n d))))
  | _ => none := nd rfl
@[simp] theorem e_sPar3 {das : List Sl → Option (List D)} : sPar3 i j l das ρ = (das ρ).bd fun q => match q with
  | [a, b, c] => some (.nx (((ρ.set i (.val a)).set j (.val b)).set l (.val c)))
  | _ => none := nd rfl
@[simp] theorem e_bBor {cc : List Sl → Option Bool} : bBor i cc ρ = (ownD i ρ).bd fun ds => (cc (ρ.set i (.val (.lst ds)))).bd fun d => if true then some d else none := nd rfl
@[simp] theorem e_dBor {dd : List Sl → Option D} : dBor i dd ρ = (ownD i ρ).bd fun ds => (dd (ρ.set i (.val (.lst ds)))).bd fun d => if noLst d then some d else none := nd rfl
/-! draws -/
variable {oa ob : OD D} {oas : OD (List D)} {os1 os2 : OS} {oc oe : OD Bool}
@[simp] theorem o_bret {α β : Type} (a : α) (f : α → Tr β) : (Tr.ret a).bind f = f a := nd rfl
@[simp] theorem o_bask {α β : Type} (m : Int) (k : Int → Tr α) (f : α → Tr β) : (Tr.ask m k).bind f = .ask m fun d => (k d).bind f := nd rfl
def Tr.bd {α β : Type} (a : Tr α) (f : α → Tr β) (w : Wt f := ()) : Tr β := a.bind f
@[simp] theorem o_bdret {α β : Type} (a : α) (f : α → Tr β) (w : Wt f) : (Tr.ret a).bd f w = f a := nd rfl
@[simp] theorem o_bdask {α β : Type} (m : Int) (k : Int → Tr α) (f : α → Tr β) (w : Wt f) : (Tr.ask m k).bd f w = .ask m fun d => (k d).bd f := nd rfl
theorem all_bd {α β : Type} {p : β → Prop} (a : Tr α) (f : α → Tr β) (w : Wt f) : (a.bd f w).All p = a.All fun x => (f x).All p := propext Tr.all_bind
@[simp] theorem o_ofO {α : Type} (a : α) : ofO (some a) = .ret a := nd rfl
@[simp] theorem o_lo {α : Type} {den : SD α} : lo den ρ μ = ofO (den ρ μ) := nd rfl
@[simp] theorem o_los {den : ZS} : los den ρ μ = ofO (den ρ μ) := nd rfl
@[simp] theorem o_o2 {f : D → D → Option D} : o2 f oa ob ρ μ = (oa ρ μ).bd fun p => (ob ρ p.2).bd fun q => (ofO (f p.1 q.1)).bd fun d => .ret (d, q.2) := nd rfl
@[simp] theorem o_o1 {f : D → Option D} : o1 f oa ρ μ = (oa ρ μ).bd fun p => (ofO (f p.1)).bd fun d => .ret (d, p.2) := nd rfl
@[simp] theorem o_w0 : w0 ρ μ = .ret ([], μ) := nd rfl
@[simp] theorem o_wc : wc oa oas ρ μ = (oa ρ μ).bd fun p => (oas ρ p.2).bd fun q => .ret (p.1 :: q.1, q.2) := nd rfl
@[simp] theorem o_tup : oTup oas ρ μ = (oas ρ μ).bd fun p => if decide (p.1.length ≤ szB) then .ret (.tup p.1, p.2) else .bad := nd rfl
@[simp] theorem o_asB : oAsB oa ρ μ = (oa ρ μ).bd fun p => (ofO (asB p.1)).bd fun b => .ret (b, p.2) := nd rfl
@[simp] theorem o_call {f : FnT} : oCall f oas ρ μ = (oas ρ μ).bd fun p => f p.1 p.2 := nd rfl
@[simp] theorem o_callP {f : List D → Option D} : oCallP f oas ρ μ = (oas ρ μ).bd fun p => (ofO (f p.1)).bd fun d => .ret (d, p.2) := nd rfl
@[simp] theorem o_set : vSet i oa ρ μ = (oa ρ μ).bd fun p => .ret (.nx (ρ.set i (.val p.1)), p.2) := nd rfl
@[simp] theorem o_asg {g : ZG} : vAsg oa g ρ μ = (oa ρ μ).bd fun p => (ofO (g p.1 ρ p.2)).bd fun q => .ret (.nx q.1, q.2) := nd rfl
@[simp] theorem o_vret : vRet oa ρ μ = (oa ρ μ).bd fun p => .ret (.rt p.1, p.2) := nd rfl
@[simp] theorem o_seq : vSeq os1 os2 ρ μ = (os1 ρ μ).bd fun p => match p.1 with
  | .nx ρ' => os2 ρ' p.2
  | _ => .ret p := nd rfl
@[simp] theorem o_if : vIf oc os1 os2 ρ μ = (oc ρ μ).bd fun p => if p.1 then os1 ρ p.2 else os2 ρ p.2 := nd rfl
@[simp] theorem o_runO : runO np n os1 ds μ = if ds.length == np then (os1 (start0 n ds) μ).bd fun p => match p.1 with
    | .rt d => .ret (d, p.2)
    | .nx _ => .ret (.non, p.2)
    | _ => .bad
  else .bad := nd rfl
@[simp] theorem o_draw {m : Int} (h : μ[i]? = some .ora) : drawT [.ref i, .int m] μ = .ask m fun d => .ret (.int d, μ) := by unfold drawT; simp [h]
@[simp] theorem o_all_ret {α : Type} {p : α → Prop} (a : α) : (Tr.ret a).All p = p a := nd rfl
theorem o_all_ask {α : Type} {p : α → Prop} {m : Int} {k : Int → Tr α} (h : 0 < m) (h2 : m.natAbs.log2 < 9000) (h3 : ∀ d, 0 ≤ d → d < m → (k d).All p) : (Tr.ask m k).All p := ⟨⟨h, h2⟩, h3⟩
end
end DN

/-! equality of plain data -/
namespace DN
open PySem PySem.Spec PyProof.Rows L2 KG
/-- a vector -/
abbrev vI (l : List Int) : D := .tup (l.map .int)
abbrev wI (l : List Int) : D := .lst (l.map .int)
/-- laid n deep -/
def shN (n : Nat) (d : D) : Prop := PyData.canLay0 (toP d) = true ∧ PyData.depth (toP d) ≤ n ∧ noNum d = true
theorem shN.mono {n m : Nat} {d : D} (h : shN n d) (k : n ≤ m) : shN m d := ⟨h.1, Nat.le_trans h.2.1 k, h.2.2⟩
theorem shN.shaped {n : Nat} {d : D} (h : shN n d) (k : n ≤ 64 := by decide) : SeqAt.shaped (toP d) = true := by
  unfold SeqAt.shaped
  rw [h.1, decide_eq_true (Nat.le_trans h.2.1 k)]; rfl
theorem shN_int (i : Int) : shN 0 (.int i) := ⟨by simp [toP, PyData.canLay0], by simp [toP, PyData.depth], rfl⟩
theorem shN_str {i : Str} (h : PyData.strOk i = true) : shN 0 (.str i) := ⟨by simp [toP, PyData.canLay0, h], by simp [toP, PyData.depth], rfl⟩
theorem shN_non : shN 0 .non := ⟨by simp [toP, PyData.canLay0], by simp [toP, PyData.depth], rfl⟩
theorem shAll {n : Nat} : ∀ {ds : List D}, (∀ d ∈ ds, shN n d) → PyData.canLayAll0 (toPs ds) = true ∧ PyData.depthAll (toPs ds) ≤ n ∧ noNums ds = true
  | [], _ => ⟨by simp [toPs, PyData.canLayAll0], by simp [toPs, PyData.depthAll], rfl⟩
  | d :: ds, h => by
    obtain ⟨h1, h2, h3⟩ := h d List.mem_cons_self
    obtain ⟨k1, k2, k3⟩ := shAll (ds := ds) fun x hx => h x (List.mem_cons_of_mem _ hx)
    exact ⟨by simp [toPs, PyData.canLayAll0, h1, k1], by simp [toPs, PyData.depthAll]; omega, by simp [noNums, h3, k3]⟩
theorem shN_tup {n : Nat} {ds : List D} (h : ∀ d ∈ ds, shN n d) : shN (n + 1) (.tup ds) := by
  obtain ⟨h1, h2, h3⟩ := shAll h
  exact ⟨by simp [toP, PyData.canLay0, h1], by simp [toP, PyData.depth]; omega, by simpa [noNum] using h3⟩
theorem shN_lst {n : Nat} {ds : List D} (h : ∀ d ∈ ds, shN n d) : shN (n + 1) (.lst ds) := by
  obtain ⟨h1, h2, h3⟩ := shAll h
  exact ⟨by simp [toP, PyData.canLay0, h1], by simp [toP, PyData.depth]; omega, by simpa [noNum] using h3⟩
theorem shN_ints (l : List Int) : shN 1 (vI l) ∧ shN 1 (wI l) := by
  have : ∀ d ∈ l.map D.int, shN 0 d := fun d hd => by
    obtain ⟨i, _, rfl⟩ := List.mem_map.mp hd
    exact shN_int i
  exact ⟨shN_tup this, shN_lst this⟩
theorem eqvAll_ints : ∀ (l m : List Int), PyData.eqvAll (toPs (l.map D.int)) (toPs (m.map D.int)) = decide (l = m)
  | [], [] => by simp [toPs, PyData.eqvAll]
  | [], _ :: _ => by simp [toPs, PyData.eqvAll]
  | _ :: _, [] => by simp [toPs, PyData.eqvAll]
  | a :: l, b :: m => by
    have := eqvAll_ints l m
    simp only [List.map_cons, toPs, toP, PyData.eqvAll, PyData.eqv, this]
    by_cases h : a = b <;> by_cases k : l = m <;> simp [h, k]
theorem fEq_sh {n m : Nat} {a b : D} (ha : shN n a) (hb : shN m b) (hn : n ≤ 64 := by decide) (hm : m ≤ 64 := by decide) : fEq a b = some (.bl (PyData.eqv (toP a) (toP b))) := by
  have h1 := ha.shaped hn
  have h2 := hb.shaped hm
  unfold fEq
  split
  · simp only [toP, PyData.eqv]
    rename_i i j
    by_cases h : i = j <;> simp [h]
  · rw [ha.2.2, hb.2.2, h1, h2]; rfl
theorem fNe_sh {n m : Nat} {a b : D} (ha : shN n a) (hb : shN m b) (hn : n ≤ 64 := by decide) (hm : m ≤ 64 := by decide) : fNe a b = some (.bl (!PyData.eqv (toP a) (toP b))) := by
  have h1 := ha.shaped hn
  have h2 := hb.shaped hm
  unfold fNe
  split
  · simp only [toP, PyData.eqv]
    rename_i i j
    by_cases h : i = j <;> simp [h]
  · rw [ha.2.2, hb.2.2, h1, h2]; rfl
@[simp] theorem v_eqV (l m : List Int) : fEq (vI l) (vI m) = some (.bl (decide (l = m))) := by
  rw [fEq_sh (shN_ints l).1 (shN_ints m).1]
  simp [toP, PyData.eqv, eqvAll_ints]
@[simp] theorem v_neV (l m : List Int) : fNe (vI l) (vI m) = some (.bl (!decide (l = m))) := by
  rw [fNe_sh (shN_ints l).1 (shN_ints m).1]
  simp [toP, PyData.eqv, eqvAll_ints]
@[simp] theorem v_eqW (l m : List Int) : fEq (wI l) (wI m) = some (.bl (decide (l = m))) := by
  rw [fEq_sh (shN_ints l).2 (shN_ints m).2]
  simp [toP, PyData.eqv, eqvAll_ints]
theorem v_eqS {a b : Str} (h : PyData.strOk a = true) (h' : PyData.strOk b = true) : fEq (.str a) (.str b) = some (.bl (decide (a = b))) := by
  rw [fEq_sh (shN_str h) (shN_str h')]
  simp only [toP, PyData.eqv]
  by_cases h : a = b <;> simp [h]
theorem nins_ints (a : List Int) : ∀ (ls : List (List Int)), ((toPs (ls.map wI)).any fun z => PyData.eqv z (toP (wI a))) = decide (a ∈ ls)
  | [] => by simp [toPs]
  | b :: ls => by
    have ih := nins_ints a ls
    simp only [List.map_cons, toPs, List.any_cons, ih]
    simp only [toP, PyData.eqv, eqvAll_ints]
    by_cases h : b = a
    · simp [h]
    · have h' : ¬ a = b := fun z => h z.symm
      by_cases k : a ∈ ls <;> simp [h, h', k]
theorem v_nin (a : List Int) (ls : List (List Int)) : fNinD (wI a) (.lst (ls.map wI)) = some (.bl (!decide (a ∈ ls))) := by
  have h1 := (shN_ints a).2
  have h2 : shN 2 (.lst (ls.map wI)) := shN_lst fun d hd => by
    obtain ⟨l, _, rfl⟩ := List.mem_map.mp hd
    exact (shN_ints l).2
  unfold fNinD inLst
  have s1 := h1.shaped
  have s2 : SeqAt.shaped (.list (toPs (ls.map wI))) = true := by simpa [toP] using h2.shaped
  have n2 : noNums (ls.map wI) = true := by simpa [noNum] using h2.2.2
  simp only [h1.2.2, n2, s1, s2, Bool.and_self, if_true]
  rw [nins_ints]
  rfl
end DN

set_option maxHeartbeats 1000000
namespace KW
open DN PySem
/-- bounds -/
theorem c_mul {a b : Int} (n m : Nat) (ha : a.natAbs < 2 ^ n) (hb : b.natAbs < 2 ^ m) (h : n + m ≤ 900000 := by decide) : cMul a b = true := by
  have l : ∀ {x : Int} {k : Nat}, x.natAbs < 2 ^ k → x.natAbs.log2 ≤ k := fun {x k} hx => by
    by_cases z : x.natAbs = 0
    · rw [z, show Nat.log2 0 = 0 by decide]; exact Nat.zero_le _
    · exact Nat.le_of_lt ((Nat.log2_lt z).mpr hx)
  unfold cMul
  have h1 := l ha
  have h2 := l hb
  exact decide_eq_true (by omega)
theorem c_div {a b : Int} (n : Nat) (hb : b.natAbs < 2 ^ n) (h0 : b ≠ 0) (h : n ≤ 9000 := by decide) : cDiv a b = true := by
  unfold cDiv
  rw [decide_eq_true h0, Bool.true_and]
  refine decide_eq_true ?_
  have : b.natAbs ≠ 0 := by omega
  have := (Nat.log2_lt this).mpr hb
  omega
/-- a vector, an element -/

def eL (l : List Int) (s : Int) : D := .tup [vI l, .int s]
def gcdL (s : Nat) (l : List Int) : Nat := l.foldl (fun g n => Nat.gcd g n.natAbs) s
theorem gcdL_one (l : List Int) : gcdL 1 l = 1 := by
  induction l with
  | nil => rfl
  | cons n l ih => simpa [gcdL] using ih
theorem gcdL_dvd (l : List Int) : ∀ s : Nat, gcdL s l ∣ s ∧ ∀ n ∈ l, (gcdL s l : Int) ∣ n := by
  induction l with
  | nil => intro s; exact ⟨Nat.dvd_refl _, fun n h => by simp at h⟩
  | cons m l ih =>
    intro s
    have h := ih (Nat.gcd s m.natAbs)
    have e : gcdL s (m :: l) = gcdL (Nat.gcd s m.natAbs) l := rfl
    rw [e]
    refine ⟨Nat.dvd_trans h.1 (Nat.gcd_dvd_left _ _), fun n hn => ?_⟩
    rcases List.mem_cons.mp hn with rfl | hn
    · exact Int.dvd_natAbs.mp (Int.natCast_dvd_natCast.mpr (Nat.dvd_trans h.1 (Nat.gcd_dvd_right _ _)))
    · exact h.2 n hn
theorem dvd_gcdL (l : List Int) : ∀ (s d : Nat), d ∣ s → (∀ n ∈ l, (d : Int) ∣ n) → d ∣ gcdL s l := by
  induction l with
  | nil => intro s d h _; exact h
  | cons m l ih =>
    intro s d h k
    refine ih _ _ (Nat.dvd_gcd h ?_) fun n hn => k n (List.mem_cons_of_mem _ hn)
    exact Int.natCast_dvd_natCast.mp (Int.dvd_natAbs.mpr (k m List.mem_cons_self))
theorem gcdL_pos {s : Nat} (h : 0 < s) (l : List Int) : 0 < gcdL s l := Nat.pos_of_dvd_of_pos (gcdL_dvd l s).1 h
theorem gcdL_le {s : Nat} (h : 0 < s) (l : List Int) : gcdL s l ≤ s := Nat.le_of_dvd h (gcdL_dvd l s).1
def lowBody : List Sl → Option Out := (sSeq (sIf (dAsB (d2 fEq (dV 2) (dK (.int 1)))) sBrk sNext) (sSet 2 (dCall fGcd (ac (dV 2) (ac (dV 3) a0)))))
theorem low_loop (l : List Int) : ∀ (v : D) (s : Int) (c : Nat) (x : Sl), ∃ y, forD (gN 3) lowBody (l.map .int) [.val v, .val (.int s), .val (.int c), x] = some (.nx [.val v, .val (.int s), .val (.int (gcdL c l)), y]) := by
  induction l with
  | nil => intro v s c x; exact ⟨x, rfl⟩
  | cons n l ih =>
    intro v s c x
    by_cases h : c = 1
    · subst h
      exact ⟨.val (.int n), by simp [lowBody, gcdL_one]⟩
    · obtain ⟨y, hy⟩ := ih v s (Nat.gcd c n.natAbs) (.val (.int n))
      refine ⟨y, ?_⟩
      have e : gcdL c (n :: l) = gcdL (Nat.gcd c n.natAbs) l := rfl
      rw [e, ← hy]
      have h' : ¬ (c : Int) = 1 := by omega
      simp [lowBody, h']
def lowC (l : List Int) (s : Int) : Int := if s < 0 then -(gcdL s.natAbs l : Int) else gcdL s.natAbs l
theorem lc_map {g : D → Option D} {ρ : List Sl} {te : List Sl → Option D} {i : Nat} {f : Int → Int} (l : List Int) (h : ∀ n ∈ l, te (ρ.set i (.val (.int n))) = some (.int (f n))) : lcD (gN i) bYes te ρ (l.map .int) = some ((l.map f).map .int) := by
  induction l with
  | nil => rfl
  | cons n l ih =>
    have h1 := h n List.mem_cons_self
    have h2 := ih fun m hm => h m (List.mem_cons_of_mem _ hm)
    simp [h1, h2]
theorem low_eq {l : List Int} {s : Int} (hl : l ≠ []) (h8 : l.length ≤ 1000) (hs : s ≠ 0) (hb : s.natAbs < 2 ^ 8000) : flowest [vI l, .int s] = some (eL (l.map (·.fdiv (lowC l s))) (s.fdiv (lowC l s))) := by
  obtain ⟨n, r, rfl⟩ : ∃ n r, l = n :: r := by
    cases l with
    | nil => exact absurd rfl hl
    | cons n r => exact ⟨n, r, rfl⟩
  have hg := gcdL_pos (s := s.natAbs) (by omega) (n :: r)
  have hg' := gcdL_le (s := s.natAbs) (by omega) (n :: r)
  have loop : ∃ y, forD (gN 3) lowBody ((n :: r).map .int) [.val (vI (n :: r)), .val (.int s), .val (.int s), .off] = some (.nx [.val (vI (n :: r)), .val (.int s), .val (.int (gcdL s.natAbs (n :: r))), y]) := by
    by_cases h1 : s = 1
    · subst h1
      exact low_loop (n :: r) _ _ 1 _
    · obtain ⟨y, hy⟩ := low_loop r (vI (n :: r)) s (Nat.gcd s.natAbs n.natAbs) (.val (.int n))
      refine ⟨y, ?_⟩
      have e : gcdL s.natAbs (n :: r) = gcdL (Nat.gcd s.natAbs n.natAbs) r := rfl
      rw [e, ← hy]
      simp [lowBody, h1]
  obtain ⟨y, hy⟩ := loop
  have hc : ∀ a, cDiv a (lowC (n :: r) s) = true := fun a => c_div 8000 (by unfold lowC; split <;> omega) (by unfold lowC; split <;> omega)
  generalize n :: r = l at *
  have run : ∀ ρ', denlowest [.val (vI l), .val (.int s), .off, .off] = some ρ' → flowest [vI l, .int s] = match ρ' with | .rt d => some d | .nx _ => some .non | _ => none := fun ρ' h => by
    have : flowest [vI l, .int s] = (denlowest [.val (vI l), .val (.int s), .off, .off]).bind fun o => match o with | .rt d => some d | .nx _ => some .non | _ => none := rfl
    rw [this, h]
    rfl
  unfold lowBody at hy
  refine (run (.rt (eL (l.map (·.fdiv (lowC l s))) (s.fdiv (lowC l s)))) ?_)
  have hm : ∀ c : Int, (∀ a, cDiv a c = true) → lcD (gN 3) bYes (d2 fDiv (dV 3) (dV 2)) [Sl.val (vI l), Sl.val (D.int s), Sl.val (D.int c), Sl.off] (l.map .int) = some ((l.map (·.fdiv c)).map .int) := fun c h => lc_map (g := fun _ => none) l fun n _ => by simp [h]
  have h1 : ∀ c : Int, c = 1 → l.map (·.fdiv c) = l ∧ s.fdiv c = s := fun c h => by subst h; simp
  have hlen : l.length ≤ 100000 := by omega
  have sv : seqD (vI l) = some (l.map .int) := rfl
  by_cases hneg : s < 0
  · have e : lowC l s = -(gcdL s.natAbs l : Int) := by unfold lowC; rw [if_pos hneg]
    rw [e] at hc ⊢
    have hm := hm _ hc
    have ha : ¬ (gcdL s.natAbs l : Int) < 0 := by omega
    have hne : ¬ -(gcdL s.natAbs l : Int) = 1 := by omega
    simp [denlowest, sv, hy, hneg, ha, hne, eL, hm, hc, hlen]
  · have e : lowC l s = (gcdL s.natAbs l : Int) := by unfold lowC; rw [if_neg hneg]
    rw [e] at hc ⊢
    have hm := hm _ hc
    by_cases h1' : (gcdL s.natAbs l : Int) = 1
    · obtain ⟨q1, q2⟩ := h1 _ h1'
      rw [q1, q2]
      simp [denlowest, sv, hy, hneg, h1', eL]
    · simp [denlowest, sv, hy, hneg, h1', eL, hm, hc, hlen]
  end KW

set_option maxHeartbeats 2000000
namespace KW
open DN PySem
abbrev Bd (a : Int) : Prop := a.natAbs < 2 ^ 200
theorem cB {a b : Int} (ha : Bd a) (hb : Bd b) : cMul a b = true := c_mul 200 200 ha hb
theorem cB1 {a : Int} (ha : Bd a) : cMul a 1 = true := cB ha (by decide)
@[simp] theorem c11 : cMul 1 1 = true := cB (by decide) (by decide)
def eI (n : Int) : D := .tup [.tup [.int n], .int 1]
@[simp] theorem low1 (n : Int) : flowest [.tup [.int n], .int 1] = some (eI n) := by
  have := low_eq (l := [n]) (s := 1) (by simp) (by simp) (by decide) (by decide)
  rw [show vI [n] = .tup [.int n] from rfl] at this
  rw [this]
  simp [lowC, gcdL_one, eL, vI, eI]
theorem diff1 {a b : Int} (ha : Bd a) (hb : Bd b) : felement_difference [eI a, eI b] = some (eI (a - b)) := by
  simp [felement_difference, denelement_difference, eI, fminus, denminus, ftimes, dentimes, cB1 ha, cB1 hb]
theorem mul1 {a b : Int} {t : List D} (h : cMul a b = true) : fmultiplied [.tup t, .tup [.int a], .tup [.int b]] = some (.tup [.int (a * b)]) := by
  simp [fmultiplied, sccmultiplied, denmultiplied, h]
theorem prod1 {a b : Int} {t : List D} (ha : Bd a) (hb : Bd b) : felement_product [.tup t, eI a, eI b] = some (eI (a * b)) := by
  simp [felement_product, denelement_product, eI, mul1 (cB ha hb)]
theorem short1 (a : Int) : f_shortest [eI a] = some (eI a) := by
  simp [f_shortest, den_shortest, eI]
end KW
namespace KW
open DN PySem
theorem shares1 (a : Int) : f_shares [.tup [.int a]] = some (.int 0) := by
  by_cases h : a = 0 <;> simp [f_shares, den_shares, h] <;> rfl
theorem trim1 (a : Int) (s : Int) : ftrimmed [.tup [], .tup [.tup [.int a], .int s]] = some (.tup [.tup [], .tup [.tup [.int a], .int s]]) := by
  simp [ftrimmed, dentrimmed, shares1]
theorem rank0 : f_rank [.tup []] = some (.tup [.int 0, .int 0]) := by
  simp [f_rank, den_rank]
theorem alike1 (a b s t : Int) : f_alike [.tup [.tup [.int a], .int s], .tup [.tup [.int b], .int t]] = some (.tup [.tup [.tup [.int a], .int s], .tup [.tup [.int b], .int t]]) := by
  simp [f_alike, den_alike, fwidened, denwidened, fpadded, denpadded]
theorem image1 (n : Nat) (a : Int) : sccimage (n + 1) 0 [.tup [], .lst [], .tup [.int a]] = some (.tup [.tup [.int a], .int 1]) := by
  simp [sccimage, denimage, fpadded, denpadded]
end KW
namespace KW
open DN PySem
theorem imel1 {a : Int} : fimage_of_element [.tup [], .lst [], eI a] = some (eI a) := by
  simp [fimage_of_element, denimage_of_element, eI, fimage, image1]
theorem joined0 : fjoined [.tup [], .tup [], .int 4] = some (.tup [.tup [], .lst []]) := by
  simp [fjoined, denjoined]
@[simp] theorem key0 : keyOf (.tup []) = some (.tup []) := nd rfl
@[simp] theorem lex0 : fLtA (.tup [.int 0, .int 0]) (.tup [.int 0, .int 0]) = some (.bl false) := nd rfl
theorem all8 (a b c d e f g h : Int) : f_all_in_one_tower [.lst [.tup [.tup [], eI a], .tup [.tup [], eI b], .tup [.tup [], eI c], .tup [.tup [], eI d], .tup [.tup [], eI e], .tup [.tup [], eI f], .tup [.tup [], eI g], .tup [.tup [], eI h]], .int 4] =
    some (.tup [.tup [], .lst [eI a, eI b, eI c, eI d, eI e, eI f, eI g, eI h]]) := by
  have e0 : ∀ x, noRef (eI x) = true := fun x => rfl
  have g1 : ∀ v, getK [(.tup [], v)] (.tup []) = some v := fun v => k_getH rfl
  simp [f_all_in_one_tower, den_all_in_one_tower, e0, rank0, joined0, imel1, g1]
end KW
namespace KW
open DN PySem
/-! Numbers, the field -/
def nQ (e : D) : D := .num (.tup []) e
def muF : List Cell := [.ins 1 [("tower", .tup []), ("known_roots", .ref 1)], .dic []]
theorem mkNum (n : Int) : fNumber___init__ [.ref 0, .int n, .int 1] [.ins 0 []] = some (.non, [.ins 0 [("tower", .tup []), ("element", eI n)]]) := by
  simp [fNumber___init__, denNumber___init__, m_put1]
theorem numberIn (v s : Int) : fnumber_in [.tup [], .tup [.tup [.int v], .int s]] = some (nQ (.tup [.tup [.int v], .int s])) := by
  simp [fnumber_in, dennumber_in, trim1, mkNum, m_put1, nQ]
theorem madeP (x y : Int) : f_law_made_point [.tup [.int x, .int y]] = some (.tup [nQ (eI x), nQ (eI y)]) := by
  have e0 : ∀ x, noRef (eI x) = true := fun x => rfl
  simp [f_law_made_point, den_law_made_point, mkNum, nQ, e0]
theorem field0 : fField___init__ [.ref 0] [.ins 1 []] = some (.non, muF) := by
  simp [fField___init__, denField___init__, m_put1, muF]
theorem fminus1 {a b : Int} {μ : List Cell} {f : D} (ha : Bd a) (hb : Bd b) : fField_minus [f, eI a, eI b] μ = some (eI (a - b), μ) := by
  have h1 := alike1 a b 1 1
  have h2 := diff1 ha hb
  have h3 := short1 (a - b)
  simp only [eI] at *
  simp [fField_minus, denField_minus, h1, h2, h3]
theorem fprod1 {a b : Int} (ha : Bd a) (hb : Bd b) : fField_product [.ref 0, eI a, eI b] muF = some (eI (a * b), muF) := by
  have h1 := alike1 a b 1 1
  have h2 := prod1 (t := []) ha hb
  have h3 := short1 (a * b)
  simp only [eI] at *
  simp [fField_product, denField_product, h1, h2, h3, muF]
end KW
namespace KW
open DN PySem
theorem finv1 {t : Int} (ht : t ≠ 0) (hb : Bd t) : fField_inverted [.ref 0, eI t] muF = some (eL [t.sign] t.natAbs, muF) := by
  have hb' : t.natAbs < 2 ^ 8000 := Nat.lt_of_lt_of_le hb (Nat.pow_le_pow_right (by decide) (by decide))
  have l1 := low_eq (l := [1]) (s := t) (by simp) (by simp) ht hb'
  have e1 : lowC [1] t = t.sign := by
    unfold lowC gcdL
    simp
    rcases Int.lt_trichotomy t 0 with h | h | h
    · rw [if_pos h, Int.sign_eq_neg_one_of_neg h]
    · exact absurd h ht
    · rw [if_neg (by omega), Int.sign_eq_one_of_pos h]
  have s1 : (1 : Int).fdiv t.sign = t.sign := by
    rcases Int.lt_trichotomy t 0 with h | h | h
    · rw [Int.sign_eq_neg_one_of_neg h]; decide
    · exact absurd h ht
    · rw [Int.sign_eq_one_of_pos h]; decide
  have s2 : t.fdiv t.sign = t.natAbs := by
    rcases Int.lt_trichotomy t 0 with h | h | h
    · rw [Int.sign_eq_neg_one_of_neg h, Int.fdiv_neg (by decide)]; simp; omega
    · exact absurd h ht
    · rw [Int.sign_eq_one_of_pos h]; simp; omega
  rw [e1] at l1
  simp only [List.map_cons, List.map_nil, s1, s2] at l1
  have i1 : finverse [.tup [], .tup [.int t]] = some (eL [t.sign] t.natAbs) := by
    have : vI [1] = .tup [.int 1] := rfl
    rw [this] at l1
    simp [finverse, sccinverse, deninverse, l1]
  have cS : cMul t.sign 1 = true := cB (by
    show t.sign.natAbs < 2 ^ 200
    rcases Int.lt_trichotomy t 0 with h | h | h
    · rw [Int.sign_eq_neg_one_of_neg h]; decide
    · exact absurd h ht
    · rw [Int.sign_eq_one_of_pos h]; decide) (by decide)
  have g1 : Nat.gcd t.natAbs t.sign.natAbs = 1 := by
    rcases Int.lt_trichotomy t 0 with h | h | h
    · rw [Int.sign_eq_neg_one_of_neg h]; simp
    · exact absurd h ht
    · rw [Int.sign_eq_one_of_pos h]; simp
  have l2 := low_eq (l := [t.sign]) (s := t.natAbs) (by simp) (by simp) (by omega) (by simpa using hb')
  have e2 : lowC [t.sign] t.natAbs = 1 := by
    unfold lowC gcdL
    rw [if_neg (by omega)]
    simp [g1]
  rw [e2] at l2
  simp only [List.map_cons, List.map_nil, Int.fdiv_one] at l2
  have l3 : flowest [.tup [.int t.sign], .int t.natAbs] = some (.tup [.tup [.int t.sign], .int t.natAbs]) := l2
  have sh : f_shortest [.tup [.tup [.int t.sign], .int t.natAbs]] = some (.tup [.tup [.int t.sign], .int t.natAbs]) := by
    simp [f_shortest, den_shortest]
  simp only [eL, vI, List.map_cons, List.map_nil] at i1 ⊢
  simp [fField_inverted, denField_inverted, eI, i1, muF, ftimes, dentimes, cS, l3, sh]
end KW

set_option maxHeartbeats 2000000
set_option exponentiation.threshold 10000
namespace KW
open DN PySem
theorem cross1 {a b c d : Int} (ha : Bd a) (hb : Bd b) (hc : Bd c) (hd : Bd d) (h1 : Bd (a * d)) (h2 : Bd (b * c)) : f_cross [.ref 0, .tup [eI a, eI b], .tup [eI c, eI d]] muF = some (eI (a * d - b * c), muF) := by
  have e1 := fprod1 ha hd
  have e2 := fprod1 hb hc
  have e3 := fminus1 (μ := muF) (f := .ref 0) h1 h2
  simp only [muF] at *
  simp [f_cross, den_cross, e1, e2, e3]
def lineD (a b c : Int) : D := .tup [.str "line", eI a, eI b, eI c]
theorem line1 {x y u v : Int} (hx : Bd x) (hy : Bd y) (hu : Bd u) (hv : Bd v) (h1 : Bd (x * v)) (h2 : Bd (y * u)) : fline_shape [.ref 0, .tup [eI x, eI y], .tup [eI u, eI v]] muF = some (lineD (y - v) (u - x) (x * v - y * u), muF) := by
  have e1 := fminus1 (μ := muF) (f := .ref 0) hy hv
  have e2 := fminus1 (μ := muF) (f := .ref 0) hu hx
  have e3 := cross1 hx hy hu hv h1 h2
  simp only [muF] at *
  simp [fline_shape, denline_shape, e1, e2, e3, lineD]
def qE (v s : Int) : D := .tup [.tup [.int (v.fdiv (lowC [v] s))], .int (s.fdiv (lowC [v] s))]
theorem prod2 {X T : Int} (hX : Bd X) (hT : Bd T) (h0 : T ≠ 0) : fField_product [.ref 0, eI X, .tup [.tup [.int T.sign], .int T.natAbs]] muF = some (qE (X * T.sign) T.natAbs, muF) := by
  have hS : Bd T.sign := by
    show T.sign.natAbs < 2 ^ 200
    rcases Int.lt_trichotomy T 0 with h | h | h
    · rw [Int.sign_eq_neg_one_of_neg h]; decide
    · exact absurd h h0
    · rw [Int.sign_eq_one_of_pos h]; decide
  have hA : Bd (T.natAbs : Int) := by simpa [Bd] using hT
  have h1 := alike1 X T.sign 1 T.natAbs
  have hb' : (T.natAbs : Int).natAbs < 2 ^ 8000 := by
    have : T.natAbs < 2 ^ 8000 := Nat.lt_of_lt_of_le hT (Nat.pow_le_pow_right (by decide) (by decide))
    simpa using this
  have l := low_eq (l := [X * T.sign]) (s := T.natAbs) (by simp) (by simp) (by omega) hb'
  have l' : flowest [.tup [.int (X * T.sign)], .int T.natAbs] = some (qE (X * T.sign) T.natAbs) := l
  have h2 : felement_product [.tup [], .tup [.tup [.int X], .int 1], .tup [.tup [.int T.sign], .int T.natAbs]] = some (qE (X * T.sign) T.natAbs) := by
    simp [felement_product, denelement_product, mul1 (cB hX hS), l', cB (show Bd 1 by decide) hA]
  have h3 : ∀ v s, f_shortest [qE v s] = some (qE v s) := fun v s => by simp [f_shortest, den_shortest, qE]
  simp only [eI, muF] at *
  simp [fField_product, denField_product, h1, h2, h3]
theorem eqZ (T : Int) : fEqG zeroD (eI T) = some (.bl (decide (T = 0))) := by
  show (if (true && true) = true then some (D.bl (PyData.eqv (toP (eI T)) (toP zeroD))) else none) = _
  have e : PyData.eqv (toP (eI T)) (toP zeroD) = decide (T = 0) := by
    show (((T == 0) && true) && (((1 : Int) == 1) && true)) = _
    by_cases h : T = 0
    · rw [decide_eq_true h, h]; simp
    · rw [decide_eq_false h, beq_false_of_ne h]; rfl
  rw [e]
  rfl
theorem meetL {a b c d e f : Int} (ha : Bd a) (hb : Bd b) (hc : Bd c) (hd : Bd d) (he : Bd e) (hf : Bd f) (h1 : Bd (a * e)) (h2 : Bd (b * d)) (h3 : Bd (b * f)) (h4 : Bd (c * e)) (h5 : Bd (c * d)) (h6 : Bd (a * f))
    (hT : Bd (a * e - b * d)) (hX : Bd (b * f - c * e)) (hY : Bd (c * d - a * f)) : fshape_meets [.ref 0, lineD a b c, lineD d e f] muF = some (.lst (if a * e - b * d = 0 then [] else
      [.tup [qE ((b * f - c * e) * (a * e - b * d).sign) (a * e - b * d).natAbs, qE ((c * d - a * f) * (a * e - b * d).sign) (a * e - b * d).natAbs]]), muF) := by
  have x1 := cross1 ha hb hd he h1 h2
  have x2 := cross1 hb hc he hf h3 h4
  have x3 := cross1 hc ha hf hd h5 h6
  have q1 : fEq (D.str "line") (D.str "line") = some (.bl true) := v_eqS (by decide +kernel) (by decide +kernel)
  by_cases h0 : a * e - b * d = 0
  · simp only [muF] at *
    simp [fshape_meets, denshape_meets, lineD, q1, f_meets_of_lines, den_meets_of_lines, x1, eqZ, h0]
  · have i1 := finv1 h0 hT
    have p1 := prod2 hX hT h0
    have p2 := prod2 hY hT h0
    simp only [muF, eL, vI, List.map_cons, List.map_nil] at *
    simp [fshape_meets, denshape_meets, lineD, q1, f_meets_of_lines, den_meets_of_lines, x1, x2, x3, eqZ, h0, i1, p1, p2]
end KW

set_option maxHeartbeats 4000000
set_option exponentiation.threshold 10000
namespace KW
open DN PySem
def ptD (x y : Int) : D := .tup [nQ (eI x), nQ (eI y)]
def segD (x y u v : Int) : D := .tup [.str "line", ptD x y, ptD u v]
theorem alltog (a b c d e f g h : Int) : fall_together [.lst [.tup [.tup [], eI a], .tup [.tup [], eI b], .tup [.tup [], eI c], .tup [.tup [], eI d], .tup [.tup [], eI e], .tup [.tup [], eI f], .tup [.tup [], eI g], .tup [.tup [], eI h]]] =
    some (.tup [.tup [], .lst [eI a, eI b, eI c, eI d, eI e, eI f, eI g, eI h]]) := by
  simp [fall_together, denall_together, all8]
theorem hold8 (a b c d e f g h : Int) : fField_holding [.ref 0, .lst [nQ (eI a), nQ (eI b), nQ (eI c), nQ (eI d), nQ (eI e), nQ (eI f), nQ (eI g), nQ (eI h)]] muF = some (.lst [eI a, eI b, eI c, eI d, eI e, eI f, eI g, eI h], muF) := by
  simp [fField_holding, denField_holding, muF, nQ, alltog, short1, m_put1]
theorem pts (x y u v x' y' u' v' : Int) : f_points_in [.ref 0, .tup [ptD x y, ptD u v, ptD x' y', ptD u' v']] muF = some (.lst [.tup [eI x, eI y], .tup [eI u, eI v], .tup [eI x', eI y'], .tup [eI u', eI v']], muF) := by
  have h := hold8 x y u v x' y' u' v'
  simp only [muF] at *
  simp [f_points_in, den_points_in, ptD, h]
end KW
namespace KW
open DN PySem
theorem shape1 {x y u v : Int} (hx : Bd x) (hy : Bd y) (hu : Bd u) (hv : Bd v) (h1 : Bd (x * v)) (h2 : Bd (y * u)) (r : List D) : f_shape [.ref 0, .str "line", .lst (.tup [eI x, eI y] :: .tup [eI u, eI v] :: r)] muF = some (lineD (y - v) (u - x) (x * v - y * u), muF) := by
  have q1 : fEq (D.str "line") (D.str "line") = some (.bl true) := v_eqS (by decide +kernel) (by decide +kernel)
  have l1 := line1 hx hy hu hv h1 h2
  simp only [muF] at *
  simp [f_shape, den_shape, q1, l1]
theorem two1 {x y u v x' y' u' v' : Int} (hx : Bd x) (hy : Bd y) (hu : Bd u) (hv : Bd v) (h1 : Bd (x * v)) (h2 : Bd (y * u)) (hx' : Bd x') (hy' : Bd y') (hu' : Bd u') (hv' : Bd v') (h1' : Bd (x' * v')) (h2' : Bd (y' * u')) :
    f_two_shapes [.ref 0, segD x y u v, segD x' y' u' v'] muF = some (.tup [lineD (y - v) (u - x) (x * v - y * u), lineD (y' - v') (u' - x') (x' * v' - y' * u')], muF) := by
  have p := pts x y u v x' y' u' v'
  have l1 := shape1 hx hy hu hv h1 h2 [.tup [eI x', eI y'], .tup [eI u', eI v']]
  have l2 := shape1 hx hy hu hv h1 h2 []
  have l3 := shape1 hx' hy' hu' hv' h1' h2' []
  simp only [muF] at *
  simp [f_two_shapes, den_two_shapes, segD, p, l1, l2, l3]
theorem numF (v s : Int) : fField_number [.ref 0, qE v s] muF = some (nQ (qE v s), muF) := by
  have h := numberIn (v.fdiv (lowC [v] s)) (s.fdiv (lowC [v] s))
  simp only [muF, qE] at *
  have b1 : Builtin.Int.intBits 1 = 1 := by decide
  simp [fField_number, denField_number, h, b1]
end KW
namespace KW
open DN PySem
theorem meets1 {x y u v x' y' u' v' : Int} (hx : Bd x) (hy : Bd y) (hu : Bd u) (hv : Bd v) (h1 : Bd (x * v)) (h2 : Bd (y * u)) (hx' : Bd x') (hy' : Bd y') (hu' : Bd u') (hv' : Bd v') (h1' : Bd (x' * v')) (h2' : Bd (y' * u'))
    {a b c d e f : Int} (ea : y - v = a) (eb : u - x = b) (ec : x * v - y * u = c) (ed : y' - v' = d) (ee : u' - x' = e) (ef : x' * v' - y' * u' = f)
    (ha : Bd a) (hb : Bd b) (hc : Bd c) (hd : Bd d) (he : Bd e) (hf : Bd f) (g1 : Bd (a * e)) (g2 : Bd (b * d)) (g3 : Bd (b * f)) (g4 : Bd (c * e)) (g5 : Bd (c * d)) (g6 : Bd (a * f))
    (hT : Bd (a * e - b * d)) (hX : Bd (b * f - c * e)) (hY : Bd (c * d - a * f)) :
    fmeets [segD x y u v, segD x' y' u' v'] = some (.tup (if a * e - b * d = 0 then [] else
      [.tup [nQ (qE ((b * f - c * e) * (a * e - b * d).sign) (a * e - b * d).natAbs), nQ (qE ((c * d - a * f) * (a * e - b * d).sign) (a * e - b * d).natAbs)]])) := by
  have t := two1 hx hy hu hv h1 h2 hx' hy' hu' hv' h1' h2'
  rw [ea, eb, ec, ed, ee, ef] at t
  have m := meetL ha hb hc hd he hf g1 g2 g3 g4 g5 g6 hT hX hY
  have n := numF
  have f0 := field0
  have nr : ∀ x y u v, noRef (segD x y u v) = true := fun _ _ _ _ => rfl
  have nq : ∀ v s, noRef (nQ (qE v s)) = true := fun _ _ => rfl
  by_cases h0 : a * e - b * d = 0
  · rw [if_pos h0] at m ⊢
    simp only [muF] at *
    simp [fmeets, denmeets, nr, f0, t, m]
  · rw [if_neg h0] at m ⊢
    simp only [muF] at *
    simp [fmeets, denmeets, nr, nq, f0, t, m, n]
end KW

set_option maxHeartbeats 4000000
set_option exponentiation.threshold 10000
namespace KW
open DN PySem
def gcdBody : List Sl → Option Out := (sSeq (sIf (dAsB (d2 fEq (dV 3) (dK (.int 0)))) (sRet (dV 2)) sNext) (sSeq (sSet 5 (d2 fMod (dCall fIntA (ac (dV 2) a0)) (dV 3))) (sSeq (sSet 2 (dV 3)) (sSet 3 (dV 5)))))
theorem gcd_turn (a b : D) (x y : Sl) (l r : Nat) (k : Int) (hr : r ≠ 0) (ks : List D) : forD (gN 4) gcdBody (.int k :: ks) [.val a, .val b, .val (.int l), .val (.int r), x, y] = forD (gN 4) gcdBody ks [.val a, .val b, .val (.int r), .val (.int (l % r : Nat)), .val (.int k), .val (.int (l % r : Nat))] := by
  have h2 : (l : Int).fmod r = (l : Int) % r := Int.fmod_eq_emod_of_nonneg _ (by omega)
  conv => lhs; rw [e_forD1]
  simp only [gcdBody]
  simp [hr, h2]
theorem gcd_end (a b : D) (x y : Sl) (l : Nat) (k : Int) (ks : List D) : forD (gN 4) gcdBody (.int k :: ks) [.val a, .val b, .val (.int l), .val (.int 0), x, y] = some (.rt (.int l)) := by
  rw [e_forD1]
  simp [gcdBody]
theorem gcd_loop : ∀ (n : Nat) (ks : List D) (a b : D) (x y : Sl) (l r : Nat), (∀ k ∈ ks, ∃ i, k = .int i) → r < 2 ^ n → 2 * n + 1 ≤ ks.length → forD (gN 4) gcdBody ks [.val a, .val b, .val (.int l), .val (.int r), x, y] = some (.rt (.int (Nat.gcd l r : Nat))) := by
  intro n
  induction n with
  | zero =>
    intro ks a b x y l r hk hr hl
    have : r = 0 := by simpa using hr
    subst this
    cases ks with
    | nil => simp at hl
    | cons k ks =>
      obtain ⟨i, rfl⟩ := hk k List.mem_cons_self
      rw [show ((0 : Nat) : Int) = 0 from rfl, gcd_end, Nat.gcd_zero_right]
  | succ n ih =>
    intro ks a b x y l r hk hr hl
    by_cases h0 : r = 0
    · subst h0
      cases ks with
      | nil => simp at hl
      | cons k ks =>
        obtain ⟨i, rfl⟩ := hk k List.mem_cons_self
        rw [show ((0 : Nat) : Int) = 0 from rfl, gcd_end, Nat.gcd_zero_right]
    · match ks, hk, hl with
      | k1 :: k2 :: ks, hk, hl =>
        obtain ⟨i, rfl⟩ := hk k1 List.mem_cons_self
        obtain ⟨j, rfl⟩ := hk k2 (List.mem_cons_of_mem _ List.mem_cons_self)
        rw [gcd_turn _ _ _ _ _ _ _ h0]
        have hm : l % r < r := Nat.mod_lt _ (by omega)
        by_cases h1 : l % r = 0
        · rw [h1, show ((0 : Nat) : Int) = 0 from rfl, gcd_end, Nat.gcd_comm l r, Nat.gcd_rec r l, h1, Nat.gcd_zero_left]
        · rw [gcd_turn _ _ _ _ _ _ _ h1]
          have hh : r % (l % r) < 2 ^ n := by
            have e : 2 ^ (n + 1) = 2 * 2 ^ n := by rw [Nat.pow_succ]; omega
            by_cases c : l % r ≤ 2 ^ n
            · exact Nat.lt_of_lt_of_le (Nat.mod_lt _ (by omega)) c
            · have : r % (l % r) = r - l % r := by
                rw [Nat.mod_eq_sub_mod (by omega), Nat.mod_eq_of_lt (by omega)]
              omega
          rw [ih _ _ _ _ _ _ _ (fun k hk' => hk k (List.mem_cons_of_mem _ (List.mem_cons_of_mem _ hk'))) hh (by simp at hl ⊢; omega)]
          rw [Nat.gcd_comm l r, Nat.gcd_rec r l, Nat.gcd_rec (l % r) r, Nat.gcd_comm]
      | [k], _, hl => simp at hl
      | [], _, hl => simp at hl
theorem upI_ints (n : Nat) : ∀ (a : Int), (∀ k ∈ upI a n, ∃ i, k = D.int i) ∧ (upI a n).length = n := by
  induction n with
  | zero => intro a; exact ⟨fun k h => by simp at h, rfl⟩
  | succ n ih =>
    intro a
    refine ⟨fun k h => ?_, by simp [(ih (a + 1)).2]⟩
    rw [v_up1] at h
    rcases List.mem_cons.mp h with rfl | h
    · exact ⟨_, rfl⟩
    · exact (ih _).1 k h
theorem gcdLaw (a b : Int) (hb : b.natAbs < 2 ^ 1900) : f_law_gcd [.int a, .int b] = some (.int (Nat.gcd a.natAbs b.natAbs : Nat)) := by
  have ea : ∀ x : Int, (if x < 0 then -x else x) = (x.natAbs : Int) := fun x => by split <;> omega
  have u := upI_ints 4000 0
  have l := gcd_loop 1900 (upI 0 4000) (.int a) (.int b) .off .off a.natAbs b.natAbs u.1 hb (by rw [u.2]; decide)
  simp only [gcdBody] at l
  have r : r1D [D.int 4000] = some (upI 0 4000) := by simp [r1D]
  generalize upI 0 4000 = ks at *
  simp [f_law_gcd, den_law_gcd, ea, r, l]
end KW

set_option maxHeartbeats 4000000
set_option exponentiation.threshold 10000
namespace KW
open DN PySem
@[simp] theorem atNeg1 (x y : D) : L2.atI [x, y] (-1) = some y := by
  unfold L2.atI L2.ixN
  simp
theorem cm1 {p : Int} (h : Bd p) : cMul p (-1) = true := cB h (by decide)
theorem lterms (t p : Int) (hp : Bd p) : f_least_terms [.tup [], .tup [.int p], .int 0] = some (.lst [.tup [.tup [.int (p * -1)], .int 1], .tup [.tup [.int 1], .int 1]]) := by
  have h : fcharacteristic [.tup [], .tup [.int p], .int 0] = some (.lst [.tup [.int (p * -1)], .tup [.int 1]]) := by
    simp [fcharacteristic, dencharacteristic, ftimes, dentimes, fpadded, denpadded, cm1 hp]
  have r : f_polynomial_root [.tup [], .lst [.tup [.tup [.int (p * -1)], .int 1], .tup [.tup [.int 1], .int 1]]] = some .non := by
    simp [f_polynomial_root, den_polynomial_root]
  simp only [Int.mul_neg, Int.mul_one] at h r ⊢
  simp [f_least_terms, den_least_terms, h, r, -e_while]
  rw [e_while]
  simp [h, r, -e_while]
theorem lpoly (p q : Int) (hp : Bd p) (hq : Bd q) (h0 : 0 < q) (hg : Nat.gcd p.natAbs q.natAbs = 1) : fleast_polynomial [.tup [], .tup [.tup [.int p], .int q]] = some (vI [-p, q]) := by
  have l := lterms 0 p hp
  have hn : Bd (-p) := by simpa [Bd] using hp
  have pr : fprimitive [.lst [.int (-p), .int q]] = some (vI [-p, q]) := by
    have hneg : ¬ q < 0 := by omega
    have c1 : ∀ a, cDiv a 1 = true := fun a => c_div 10 (by decide) (by decide)
    simp [fprimitive, denprimitive, hg, hneg, c1]
  have cq : cMul 1 q = true := cB (by decide) hq
  simp only [Int.mul_neg, Int.mul_one] at l
  simp [fleast_polynomial, denleast_polynomial, l, cB hn (show Bd 1 by decide), cq, cB hq hq, pr]
theorem lplace (p q : Int) (hp : Bd p) : fNumber_place [.num (.tup []) (.tup [.tup [.int p], .int q])] = some (.int 0) := by
  have l := lterms 0 p hp
  have dg : f_degree [.tup [], .tup [.tup [.int p], .int q], .int 0] = some (.int 1) := by
    simp [f_degree, den_degree, l]
  have lf : fleast_field [.tup [], .tup [.tup [.int p], .int q]] = some (.tup [.tup [], .tup [.tup [.int p], .int q]]) := by
    simp [fleast_field, denleast_field, dg]
  have un : f_unit [.int 64] = some (.lst [.tup [.int 18446744073709551616, .int 18446744073709551616]]) := by
    simp [f_unit, den_unit]
  have bs : f_bases [.tup [], .int 64] = some (.lst [.lst [.tup [.int 18446744073709551616, .int 18446744073709551616]]]) := by
    simp [f_bases, den_bases, un]
  have cm : cMul p 18446744073709551616 = true := c_mul 200 70 hp (by decide)
  have bd : ∃ a b, fbound [.tup [.int p], .lst [.tup [.int 18446744073709551616, .int 18446744073709551616]]] = some (.tup [.int a, .int b]) := by
    rcases Int.lt_trichotomy p 0 with h | h | h
    · have h2 : ¬ 0 < p := by omega
      exact ⟨_, _, by simp [fbound, denbound, h, h2, cm]; exact ⟨rfl, rfl⟩⟩
    · subst h
      exact ⟨0, 0, by simp [fbound, denbound]⟩
    · exact ⟨_, _, by simp [fbound, denbound, h, cm]; exact ⟨rfl, rfl⟩⟩
  obtain ⟨a, b, bd⟩ := bd
  have ct : f_count_below_first [.lst [.tup [.int a, .int b]]] = some (.int 0) := by
    simp [f_count_below_first, den_count_below_first]
  have pl : fplace_of [.tup [], .tup [.int p]] = some (.int 0) := by
    simp [fplace_of, denplace_of, bs, bd, ct]
  simp [fNumber_place, denNumber_place, lf, pl]
end KW

set_option maxHeartbeats 4000000
set_option exponentiation.threshold 10000
namespace KW
open DN PySem
@[simp] theorem ba00 : Builtin.bitAnd 0 0 = 0 := by decide
@[simp] theorem ba01 : Builtin.bitAnd 0 1 = 0 := by decide
@[simp] theorem ba10 : Builtin.bitAnd 1 0 = 0 := by decide
@[simp] theorem ba11 : Builtin.bitAnd 1 1 = 1 := by decide
@[simp] theorem bx00 : Builtin.bitXor 0 0 = 0 := by decide
@[simp] theorem bx01 : Builtin.bitXor 0 1 = 1 := by decide
@[simp] theorem bx10 : Builtin.bitXor 1 0 = 1 := by decide
@[simp] theorem bx11 : Builtin.bitXor 1 1 = 0 := by decide
@[simp] theorem ixN20 : L2.ixN 2 0 = some 0 := by decide
@[simp] theorem ixN21 : L2.ixN 2 1 = some 1 := by decide
theorem bits0 : f_law_bits [.int 0, .lst [.int 2]] = some (.int 1) := by
  simp [f_law_bits, den_law_bits]
theorem times2 (X : Int) (hX : Bd X) : f_law_times [.lst [.int 1, .int 0], .lst [.int X, .int 0], .lst [.int 2]] = some (.lst [.int X, .int 0]) := by
  have c := cB (show Bd 1 by decide) hX
  have c2 := cB hX (show Bd 1 by decide)
  by_cases h : X = 0
  · subst h
    simp [f_law_times, den_law_times]
  · simp [f_law_times, den_law_times, h, bits0, c, c2]
theorem odd0 : f_law_odd [.int 0] = some (.bl false) := by
  simp [f_law_odd, den_law_odd]
theorem turn0 (X : Int) : f_law_turned [.lst [.int X, .int 0], .int 0] = some (.lst [.int X, .int 0]) := by
  simp [f_law_turned, den_law_turned, odd0]
theorem odd1 : f_law_odd [.int 1] = some (.bl true) := by
  simp [f_law_odd, den_law_odd]
theorem turn1 (X : Int) : f_law_turned [.lst [.int X, .int 0], .int 1] = some (.lst [.int X, .int 0]) := by
  simp [f_law_turned, den_law_turned, odd0, odd1]
theorem conj1 (X : Int) : f_law_conjugates [.lst [.int X, .int 0]] = some (.lst [.lst [.int X, .int 0]]) := by
  have n0 : fNinD (.lst [.int X, .int 0]) (.lst []) = some (.bl true) := v_nin [X, 0] []
  have n1 : fNinD (.lst [.int X, .int 0]) (.lst [.lst [.int X, .int 0]]) = some (.bl false) := (v_nin [X, 0] [[X, 0]]).trans (by simp)
  simp [f_law_conjugates, den_law_conjugates, turn0, turn1, n0, n1]
theorem prim2 (X S : Int) (hX : Bd X) (hS : Bd S) (h0 : 0 < S) : f_law_primitive [.lst [.int X, .int S]] = some (vI [X.fdiv (Nat.gcd X.natAbs S.natAbs : Nat), S.fdiv (Nat.gcd X.natAbs S.natAbs : Nat)]) := by
  have b9 : ∀ {a : Int}, Bd a → a.natAbs < 2 ^ 1900 := fun h => Nat.lt_of_lt_of_le h (Nat.pow_le_pow_right (by decide) (by decide))
  have g1 := gcdLaw 0 X (b9 hX)
  have g2 := gcdLaw (Nat.gcd 0 X.natAbs : Nat) S (b9 hS)
  have hp := Nat.gcd_pos_of_pos_right X.natAbs (n := S.natAbs) (by omega)
  have hl := Nat.gcd_le_right X.natAbs (n := S.natAbs) (by omega)
  have c : ∀ a, cDiv a (Nat.gcd X.natAbs S.natAbs : Nat) = true := fun a => c_div 200 (by have := hS; simp only [Bd] at this; omega) (by omega)
  have hn : ¬ S < 0 := by omega
  simp at g1 g2
  simp [f_law_primitive, den_law_primitive, g1, g2, hn, c]
theorem least1 (X S : Int) (hX : Bd X) (hS : Bd S) (h0 : 0 < S) : f_law_least [.lst [.int X, .int 0], .int S, .lst [.int 2]] = some (vI [(-X).fdiv (Nat.gcd X.natAbs S.natAbs : Nat), S.fdiv (Nat.gcd X.natAbs S.natAbs : Nat)]) := by
  have hn : Bd (-X) := by simpa [Bd] using hX
  have p := prim2 (-X) S hn hS h0
  have t := times2 X hX
  have lr : leastRows f_law_times 2 (.lst [.int X, .int 0]) (.lst [.int 2]) [.lst [.int 1, .int 0]] = some (.lst [.lst [.int (-X), .int 0], .lst [.int 1, .int 0]]) := by
    simp [leastRows, rowsI, partsI, t, lgI, prog, at2, List.range_succ]
  have c1 := cB hn (show Bd 1 by decide)
  have c2 := cB (show Bd 1 by decide) hS
  have c3 := cB hS hS
  simp at p
  simp [f_law_least, den_law_least, conj1, leastBody, lr, notOwn, lstO, c1, c2, c3, p]
end KW

set_option maxHeartbeats 4000000
set_option exponentiation.threshold 10000
namespace KW
open DN PySem
theorem sign0 : f_law_sign [.lst [.int 0, .int 0], .lst [.int 2]] = some (.int 0) := by
  simp [f_law_sign, den_law_sign]
theorem lawplace (X : Int) : f_law_place [.lst [.int X, .int 0], .lst [.int 2]] = some (.int 0) := by
  have l : f_law_less [.lst [.int X, .int 0], .lst [.int X, .int 0], .lst [.int 2]] = some (.bl false) := by
    simp [f_law_less, den_law_less, sign0]
  simp [f_law_place, den_law_place, conj1, l]
theorem lawis (X S : Int) (hX : Bd X) (hS : Bd S) (h0 : 0 < S) : f_law_is [nQ (qE X S), .lst [.int X, .int 0], .int S, .lst [.int 2]] = some (.bl true) := by
  have hg := Nat.gcd_pos_of_pos_right X.natAbs (n := S.natAbs) (by omega)
  have e : lowC [X] S = (Nat.gcd X.natAbs S.natAbs : Nat) := by
    unfold lowC gcdL
    rw [if_neg (by omega)]
    simp [Nat.gcd_comm]
  have d1 : (Nat.gcd X.natAbs S.natAbs : Int) ∣ X := Int.dvd_natAbs.mp (Int.natCast_dvd_natCast.mpr (Nat.gcd_dvd_left _ _))
  have d2 : (Nat.gcd X.natAbs S.natAbs : Int) ∣ S := Int.dvd_natAbs.mp (Int.natCast_dvd_natCast.mpr (Nat.gcd_dvd_right _ _))
  have lst := least1 X S hX hS h0
  have hgd : Nat.gcd X.natAbs S.natAbs = Nat.gcd X.natAbs S.natAbs := rfl
  generalize hG : Nat.gcd X.natAbs S.natAbs = g at *
  obtain ⟨p, hp⟩ := d1
  obtain ⟨q, hq⟩ := d2
  have g0 : (g : Int) ≠ 0 := by omega
  have fp : X.fdiv g = p := by rw [hp, Int.mul_comm]; exact Int.mul_fdiv_cancel _ g0
  have fq : S.fdiv g = q := by rw [hq, Int.mul_comm]; exact Int.mul_fdiv_cancel _ g0
  have fn : (-X).fdiv g = -p := by rw [hp, ← Int.mul_neg, Int.mul_comm]; exact Int.mul_fdiv_cancel _ g0
  have hp' : X.natAbs = g * p.natAbs := by rw [hp, Int.natAbs_mul, Int.natAbs_natCast]
  have hq' : S.natAbs = g * q.natAbs := by rw [hq, Int.natAbs_mul, Int.natAbs_natCast]
  have bp : Bd p := by
    have : p.natAbs ≤ X.natAbs := by rw [hp']; exact Nat.le_mul_of_pos_left _ hg
    exact Nat.lt_of_le_of_lt this hX
  have bq : Bd q := by
    have : q.natAbs ≤ S.natAbs := by rw [hq']; exact Nat.le_mul_of_pos_left _ hg
    exact Nat.lt_of_le_of_lt this hS
  have q0 : 0 < q := by
    apply Classical.byContradiction
    intro z
    have : (g : Int) * q ≤ 0 := Int.mul_nonpos_of_nonneg_of_nonpos (by omega) (by omega)
    omega
  have cop : Nat.gcd p.natAbs q.natAbs = 1 := by
    have : g * Nat.gcd p.natAbs q.natAbs = g := by
      rw [← Nat.gcd_mul_left, ← hp', ← hq']; exact hG
    exact Nat.eq_of_mul_eq_mul_left hg (by omega)
  have lp := lpoly p q bp bq q0 cop
  have pl := lplace p q bp
  rw [fn, fq] at lst
  have po : fNumber_polynomial [.num (.tup []) (.tup [.tup [.int p], .int q])] = some (vI [-p, q]) := by
    simp [fNumber_polynomial, denNumber_polynomial, lp]
  have nev : fNe (vI [-p, q]) (vI [-p, q]) = some (.bl false) := by rw [v_neV]; simp
  have lpl := lawplace X
  have e1 : nQ (qE X S) = .num (.tup []) (.tup [.tup [.int p], .int q]) := by
    unfold nQ qE
    rw [e, fp, fq]
  rw [e1]
  simp only [vI, List.map_cons, List.map_nil] at *
  simp [f_law_is, den_law_is, po, lst, nev, pl, lpl]
end KW

set_option maxHeartbeats 4000000
set_option exponentiation.threshold 10000
namespace KW
open DN PySem
theorem bd_of {a : Int} (h : a.natAbs < 1000000000000000000) : Bd a := Nat.lt_of_lt_of_le h (by decide)
theorem are0 : f_law_are [.tup [], .lst []] = some (.bl true) := by
  simp [f_law_are, den_law_are]
theorem are1 (X Y S : Int) (hX : Bd X) (hY : Bd Y) (hS : Bd S) (h0 : 0 < S) : f_law_are [.tup [.tup [nQ (qE X S), nQ (qE Y S)]], .lst [.tup [.lst [.lst [.int X, .int 0], .lst [.int Y, .int 0]], .int S, .int 2]]] = some (.bl true) := by
  have l1 := lawis X S hX hS h0
  have l2 := lawis Y S hY hS h0
  simp [f_law_are, den_law_are, l1, l2]
theorem lawline (a b c d : Int) (h1 : cMul (d - b) a = true) (h2 : cMul (a - c) b = true) : f_law_line [.tup [.int a, .int b], .tup [.int c, .int d]] = some (.tup [.int (d - b), .int (a - c), .int ((d - b) * a + (a - c) * b)]) := by
  simp [f_law_line, den_law_line, h1, h2]
theorem lawcross (a b c d e f : Int) (h1 : cMul a e = true) (h2 : cMul b d = true) (h3 : cMul c e = true) (h4 : cMul b f = true) (h5 : cMul a f = true) (h6 : cMul c d = true) :
    f_law_crossing [.tup [.int a, .int b, .int c], .tup [.int d, .int e, .int f]] = some (.lst (if a * e - b * d = 0 then [] else
      [.tup [.lst [.lst [.int ((c * e - b * f) * (a * e - b * d).sign), .int 0], .lst [.int ((a * f - c * d) * (a * e - b * d).sign), .int 0]], .int (a * e - b * d).natAbs, .int 2]])) := by
  rcases Int.lt_trichotomy (a * e - b * d) 0 with h | h | h
  · have h0 : ¬ a * e - b * d = 0 := by omega
    have s1 : (a * e - b * d).sign = -1 := Int.sign_eq_neg_one_of_neg h
    have s2 : ((a * e - b * d).natAbs : Int) = 0 - (a * e - b * d) := by omega
    have s3 : ∀ z : Int, z * -1 = 0 - z := fun z => by omega
    rw [if_neg h0, s1, s2, s3, s3]
    generalize hT : a * e - b * d = T at *
    simp only [Int.zero_sub]
    simp [f_law_crossing, den_law_crossing, h1, h2, h3, h4, h5, h6, hT, h0, h]
  · rw [if_pos h]
    simp [f_law_crossing, den_law_crossing, h1, h2, h]
  · have h0 : ¬ a * e - b * d = 0 := by omega
    have s1 : (a * e - b * d).sign = 1 := Int.sign_eq_one_of_pos h
    have s2 : ((a * e - b * d).natAbs : Int) = a * e - b * d := by omega
    rw [if_neg h0, s1, s2, Int.mul_one, Int.mul_one]
    generalize hT : a * e - b * d = T at *
    have hn : ¬ T < 0 := by omega
    simp [f_law_crossing, den_law_crossing, h1, h2, h3, h4, h5, h6, hT, h0, hn]
theorem all_point : (f_law_point [.ref 0, .int 20] [.ora]).All fun r => ∃ a b : Int, (-20 ≤ a ∧ a ≤ 20 ∧ -20 ≤ b ∧ b ≤ 20) ∧ r = (.tup [.int a, .int b], [.ora]) := by
  simp [f_law_point, den_law_point, f_law_take]
  refine o_all_ask (by decide) (by decide) fun d d0 d1 => o_all_ask (by decide) (by decide) fun e e0 e1 => ?_
  exact ⟨_, _, ⟨by omega, by omega, by omega, by omega⟩, rfl⟩
theorem eq2 (a b c d : Int) : fEq (.tup [.int a, .int b]) (.tup [.int c, .int d]) = some (.bl (decide ([a, b] = [c, d]))) := v_eqV [a, b] [c, d]
theorem all_two : (f_law_two_points [.ref 0, .int 20] [.ora]).All fun r => ∃ a b c d : Int, ((-20 ≤ a ∧ a ≤ 20 ∧ -20 ≤ b ∧ b ≤ 20) ∧ (-20 ≤ c ∧ c ≤ 21 ∧ -20 ≤ d ∧ d ≤ 20)) ∧ r = (.tup [.tup [.int a, .int b], .tup [.int c, .int d]], [.ora]) := by
  simp [f_law_two_points, den_law_two_points]
  simp only [all_bd]
  refine all_point.imp fun r hr => ?_
  obtain ⟨a, b, h1, rfl⟩ := hr
  simp
  simp only [all_bd]
  refine all_point.imp fun r hr => ?_
  obtain ⟨c, d, h2, rfl⟩ := hr
  by_cases h : [a, b] = [c, d]
  · simp [eq2, h]
    simp at h
    obtain ⟨rfl, rfl⟩ := h
    exact ⟨_, _, _, _, ⟨h1, by omega, by omega, by omega, by omega⟩, ⟨rfl, rfl⟩, rfl, rfl⟩
  · simp [eq2, h]
    exact ⟨_, _, _, _, ⟨h1, by omega, by omega, by omega, by omega⟩, ⟨rfl, rfl⟩, rfl, rfl⟩
end KW

set_option maxHeartbeats 4000000
set_option exponentiation.threshold 10000
namespace KW
open DN PySem
theorem made (x y : Int) : f_law_made_point [.tup [.int x, .int y]] = some (ptD x y) := by
  have nr : ∀ x : Int, noRef (eI x) = true := fun _ => rfl
  simp [f_law_made_point, den_law_made_point, fNumber___init__, denNumber___init__, ptD, m_put1, nQ, nr]
theorem nab {x y : Int} {m n : Nat} (hx : x.natAbs ≤ m) (hy : y.natAbs ≤ n) : (x * y).natAbs ≤ m * n := by
  rw [Int.natAbs_mul]
  exact Nat.mul_le_mul hx hy
theorem nsb {x y : Int} {m n : Nat} (hx : x.natAbs ≤ m) (hy : y.natAbs ≤ n) : (x - y).natAbs ≤ m + n := by omega
theorem nad {x y : Int} {m n : Nat} (hx : x.natAbs ≤ m) (hy : y.natAbs ≤ n) : (x + y).natAbs ≤ m + n := by omega
theorem bdn {a : Int} {n : Nat} (h : a.natAbs ≤ n) (hn : n < 1000000000000000000 := by decide) : Bd a := bd_of (Nat.lt_of_le_of_lt h hn)
theorem tail {x y u v x' y' u' v' : Int} (hx : x.natAbs ≤ 300) (hy : y.natAbs ≤ 300) (hu : u.natAbs ≤ 300) (hv : v.natAbs ≤ 300) (hx' : x'.natAbs ≤ 300) (hy' : y'.natAbs ≤ 300) (hu' : u'.natAbs ≤ 300) (hv' : v'.natAbs ≤ 300) :
    ∃ l1 l2 l3 m1 m2 m3 due g h, f_law_line [.tup [.int x, .int y], .tup [.int u, .int v]] = some (.tup [.int l1, .int l2, .int l3]) ∧
      f_law_line [.tup [.int x', .int y'], .tup [.int u', .int v']] = some (.tup [.int m1, .int m2, .int m3]) ∧
      f_law_crossing [.tup [.int l1, .int l2, .int l3], .tup [.int m1, .int m2, .int m3]] = some due ∧
      fmeets [segD x y u v, segD x' y' u' v'] = some g ∧ fmeets [segD x' y' u' v', segD x y u v] = some h ∧
      f_law_are [g, due] = some (.bl true) ∧ f_law_are [h, due] = some (.bl true) ∧
      (cMul l1 m2 = true ∧ cMul l2 m1 = true ∧ cMul l1 x' = true ∧ cMul l2 y' = true) := by
  have a1 := nsb hv hy
  have a2 := nsb hx hu
  have b1 := nsb hv' hy'
  have b2 := nsb hx' hu'
  have a3 := nad (nab a1 hx) (nab a2 hy)
  have b3 := nad (nab b1 hx') (nab b2 hy')
  have L := lawline x y u v (cB (bdn a1) (bdn hx)) (cB (bdn a2) (bdn hy))
  have M := lawline x' y' u' v' (cB (bdn b1) (bdn hx')) (cB (bdn b2) (bdn hy'))
  have ea : y - v = -(v - y) := by omega
  have eb : u - x = -(x - u) := by omega
  have ec : x * v - y * u = (v - y) * x + (x - u) * y := by
    rw [Int.sub_mul, Int.sub_mul, Int.mul_comm v x, Int.mul_comm u y, Int.mul_comm y x]; omega
  have ed : y' - v' = -(v' - y') := by omega
  have ee : u' - x' = -(x' - u') := by omega
  have ef : x' * v' - y' * u' = (v' - y') * x' + (x' - u') * y' := by
    rw [Int.sub_mul, Int.sub_mul, Int.mul_comm v' x', Int.mul_comm u' y', Int.mul_comm y' x']; omega
  have p1 := bdn (nab hx hv)
  have p2 := bdn (nab hy hu)
  have q1 := bdn (nab hx' hv')
  have q2 := bdn (nab hy' hu')
  generalize v - y = a at *
  generalize x - u = b at *
  generalize v' - y' = d at *
  generalize x' - u' = e at *
  generalize hc : a * x + b * y = c at *
  generalize hf : d * x' + e * y' = f at *
  have na1 : (-a).natAbs ≤ 600 := by omega
  have na2 : (-b).natAbs ≤ 600 := by omega
  have nb1 : (-d).natAbs ≤ 600 := by omega
  have nb2 : (-e).natAbs ≤ 600 := by omega
  have C := lawcross a b c d e f (cB (bdn a1) (bdn b2)) (cB (bdn a2) (bdn b1)) (cB (bdn a3) (bdn b2)) (cB (bdn a2) (bdn b3)) (cB (bdn a1) (bdn b3)) (cB (bdn a3) (bdn b1))
  have G := meets1 (bdn hx) (bdn hy) (bdn hu) (bdn hv) p1 p2 (bdn hx') (bdn hy') (bdn hu') (bdn hv') q1 q2 ea eb ec ed ee ef (bdn na1) (bdn na2) (bdn a3) (bdn nb1) (bdn nb2) (bdn b3)
    (bdn (nab na1 nb2)) (bdn (nab na2 nb1)) (bdn (nab na2 b3)) (bdn (nab a3 nb2)) (bdn (nab a3 nb1)) (bdn (nab na1 b3)) (bdn (nsb (nab na1 nb2) (nab na2 nb1))) (bdn (nsb (nab na2 b3) (nab a3 nb2))) (bdn (nsb (nab a3 nb1) (nab na1 b3)))
  have H := meets1 (bdn hx') (bdn hy') (bdn hu') (bdn hv') q1 q2 (bdn hx) (bdn hy) (bdn hu) (bdn hv) p1 p2 ed ee ef ea eb ec (bdn nb1) (bdn nb2) (bdn b3) (bdn na1) (bdn na2) (bdn a3)
    (bdn (nab nb1 na2)) (bdn (nab nb2 na1)) (bdn (nab nb2 a3)) (bdn (nab b3 na2)) (bdn (nab b3 na1)) (bdn (nab nb1 a3)) (bdn (nsb (nab nb1 na2) (nab nb2 na1))) (bdn (nsb (nab nb2 a3) (nab b3 na2))) (bdn (nsb (nab b3 na1) (nab nb1 a3)))
  have t1 : -a * -e - -b * -d = a * e - b * d := by rw [Int.neg_mul_neg, Int.neg_mul_neg]
  have t2 : -b * f - c * -e = c * e - b * f := by rw [Int.neg_mul, Int.mul_neg]; omega
  have t3 : c * -d - -a * f = a * f - c * d := by rw [Int.neg_mul, Int.mul_neg]; omega
  have t4 : -d * -b - -e * -a = -(a * e - b * d) := by rw [Int.neg_mul_neg, Int.neg_mul_neg, Int.mul_comm d b, Int.mul_comm e a]; omega
  have t5 : -e * c - f * -b = -(c * e - b * f) := by rw [Int.neg_mul, Int.mul_neg, Int.mul_comm e c, Int.mul_comm f b]; omega
  have t6 : f * -a - -d * c = -(a * f - c * d) := by rw [Int.mul_neg, Int.neg_mul, Int.mul_comm d c, Int.mul_comm f a]; omega
  rw [t1, t2, t3] at G
  rw [t4, t5, t6, Int.sign_neg, Int.neg_mul_neg, Int.neg_mul_neg, Int.natAbs_neg] at H
  have k : ∀ z : Int, -z = 0 ↔ z = 0 := fun z => by omega
  simp only [k] at H
  have sg : ∀ z t : Int, (z * t.sign).natAbs ≤ z.natAbs := fun z t => by
    rw [Int.natAbs_mul]
    have : t.sign.natAbs ≤ 1 := by
      rcases Int.lt_trichotomy t 0 with h | h | h
      · rw [Int.sign_eq_neg_one_of_neg h]; decide
      · rw [h]; decide
      · rw [Int.sign_eq_one_of_pos h]; decide
    exact Nat.le_trans (Nat.mul_le_mul_left _ this) (by omega)
  have BT := nsb (nab a1 b2) (nab a2 b1)
  have BX := nsb (nab a3 b2) (nab a2 b3)
  have BY := nsb (nab a1 b3) (nab a3 b1)
  generalize a * e - b * d = T at *
  generalize c * e - b * f = X at *
  generalize a * f - c * d = Y at *
  refine ⟨_, _, _, _, _, _, _, _, _, L, M, C, G, H, ?_, ?_, cB (bdn a1) (bdn b2), cB (bdn a2) (bdn b1), cB (bdn a1) (bdn hx'), cB (bdn a2) (bdn hy')⟩ <;>
  · by_cases h0 : T = 0
    · rw [if_pos h0, if_pos h0]; exact are0
    · rw [if_neg h0, if_neg h0]
      exact are1 _ _ _ (bdn (Nat.le_trans (sg _ _) BX)) (bdn (Nat.le_trans (sg _ _) BY)) (bdn (by rw [Int.natAbs_natCast]; exact BT)) (by omega)
end KW

set_option maxHeartbeats 4000000
set_option exponentiation.threshold 10000
namespace KW
open DN PySem
theorem all_law : (flaw (startL 15) [.ora]).All isTrue1 := by
  simp [flaw, denlaw, startL]
  simp only [all_bd]
  refine all_two.imp fun r hr => ?_
  obtain ⟨x, y, u, v, h1, rfl⟩ := hr
  simp
  simp only [all_bd]
  refine all_two.imp fun r hr => ?_
  obtain ⟨x', y', u', v', h2, rfl⟩ := hr
  simp [f_law_take]
  refine o_all_ask (by decide) (by decide) fun d d0 d1 => ?_
  by_cases hd : d = 1
  · subst hd
    simp
    refine o_all_ask (by decide) (by decide) fun e e0 e1 => ?_
    have c1 : cMul (1 + e) (u - x) = true := cB (bd_of (by omega)) (bd_of (by omega))
    have c2 : cMul (1 + e) (v - y) = true := cB (bd_of (by omega)) (bd_of (by omega))
    have b1 : ((1 + e) * (u - x)).natAbs ≤ 200 := Nat.le_trans (nab (m := 3) (n := 41) (by omega) (by omega)) (by decide)
    have b2 : ((1 + e) * (v - y)).natAbs ≤ 200 := Nat.le_trans (nab (m := 3) (n := 41) (by omega) (by omega)) (by decide)
    obtain ⟨l1, l2, l3, m1, m2, m3, due, g, h, L, M, C, G, H, A, B, k1, k2, k3, k4⟩ := tail (x := x) (y := y) (u := u) (v := v) (x' := x') (y' := y') (u' := x' + (1 + e) * (u - x)) (v' := y' + (1 + e) * (v - y)) (by omega) (by omega) (by omega) (by omega) (by omega) (by omega) (by omega) (by omega)
    simp only [segD, ptD] at *
    by_cases z1 : l1 * m2 = l2 * m1 <;> by_cases z2 : l1 * x' + l2 * y' = l3 <;> simp [c1, c2, L, M, C, made, ptD, G, H, A, B, k1, k2, k3, k4, z1, z2, isTrue1]
  · obtain ⟨l1, l2, l3, m1, m2, m3, due, g, h, L, M, C, G, H, A, B, k1, k2, k3, k4⟩ := tail (x := x) (y := y) (u := u) (v := v) (x' := x') (y' := y') (u' := u') (v' := v') (by omega) (by omega) (by omega) (by omega) (by omega) (by omega) (by omega) (by omega)
    simp only [segD, ptD] at *
    by_cases z1 : l1 * m2 = l2 * m1 <;> by_cases z2 : l1 * x' + l2 * y' = l3 <;> simp [hd, L, M, C, made, ptD, segD, G, H, A, B, k1, k2, k3, k4, z1, z2, isTrue1]
end KW

set_option maxHeartbeats 4000000
namespace KW
open PySem PySem.Spec PyProof.Rows L2 KG DN
section
variable {P : Program} {w : World} {K : PySem.W.Frag} {mg : Str → Option Value} {base : Heap} {S : CS}
theorem oklaw (hK : K = S.K) {f : Addr} {fd : FuncData} {k : Nat} (F : Fun K "law" "law" slaw f fd) (M : Names mg) (G_law_state : Cal P w K mg base k "_law_state" ["script"] (sp_law_state K))
    (suite : ∀ (cdv : Value) (A : Around) (outer : List Env) (s : Shared) (H : Hp) (E : XK) (hr : Room k (A.deeper (envOfC "law" (defScope slaw) s.heap.objs.size f cdv))), PSs (cxOf CX0 P w K mg base Nlaw "law" (defScope slaw) f cdv A outer s H E).nox ((defBody slaw).drop 1) (tO S flaw)) :
    FnOk P w K mg base CX0 (k + 1) f fd ["script"] (splaw K) := by
  refine F.ok sclaw (fun vs H Q E h => ?_) (fun cdv A outer s H vs Q E hr h => ?_)
  · obtain ⟨a, ns, rfl, _⟩ := h
    rfl
  obtain ⟨a, ns, rfl, hS, h63, fin⟩ := h
  refine ⟨_, (pss_cons (ps_set (i := 1) sclaw.nd rfl (.inl rfl) (pe_call G_law_state.ok hr (by rfl) G_law_state.m G_law_state.kp G_law_state.b .nil pass0 (pa_cons (pv 0) pa_nil)))
    (suite cdv A outer s H E hr)), ?_⟩
  refine ⟨_, rfl, a, ns, rfl, hS, h63, fun H1 p s1 hp X1 _ => ?_⟩
  exact law_start hK (N := Nlaw) (by decide) all_law rfl hS s1 hp X1 fin
end
end KW

set_option maxHeartbeats 4000000
namespace KW
open PySem PySem.Spec PyProof.Rows L2 KG DN
section
variable {P : Program} {w : World} {K : PySem.W.Frag} {mg : Str → Option Value} {base : Heap} {S : CS} {k : Nat}
theorem rec_sccmultiplied (M : Names mg) (Z : CtxN P w K mg S) (TNumber : ClsC K (S.cl 0) ["tower", "element"]) (TField : ClsC K (S.cl 1) ["tower", "known_roots"]) (Dmultiplied : DefE K mg "multiplied" smultiplied ["tower", "one", "other"]) (Gplus : Cal P w K mg base k "plus" ["one", "other"] (SpD S.cls fplus)) (Gminus : Cal P w K mg base k "minus" ["one", "other"] (SpD S.cls fminus)) : ∀ n : Nat, FnOk P w K mg base CX0 (k + n) Dmultiplied.f Dmultiplied.fd ["tower", "one", "other"] (SpD S.cls (sccmultiplied n 0))
  | 0 => fn_none fun _ => rfl
  | n + 1 => by
    have ih := rec_sccmultiplied M Z TNumber TField Dmultiplied Gplus Gminus n
    exact okmultiplied Dmultiplied.F M Z TNumber TField (Dmultiplied.cal ih) (Gplus.lift (Nat.le_add_right k n)) (Gminus.lift (Nat.le_add_right k n))
theorem rec_sccinverse (M : Names mg) (Z : CtxN P w K mg S) (TNumber : ClsC K (S.cl 0) ["tower", "element"]) (TField : ClsC K (S.cl 1) ["tower", "known_roots"]) (Dinverse : DefE K mg "inverse" sinverse ["tower", "vector"]) (Glowest : Cal P w K mg base k "lowest" ["vector", "scale"] (SpD S.cls flowest)) (Gpadded : Cal P w K mg base k "padded" ["vector", "size"] (SpD S.cls fpadded)) (Gmultiplied : Cal P w K mg base k "multiplied" ["tower", "one", "other"] (SpD S.cls fmultiplied)) (Gtimes : Cal P w K mg base k "times" ["vector", "factor"] (SpD S.cls ftimes)) : ∀ n : Nat, FnOk P w K mg base CX0 (k + n) Dinverse.f Dinverse.fd ["tower", "vector"] (SpD S.cls (sccinverse n 0))
  | 0 => fn_none fun _ => rfl
  | n + 1 => by
    have ih := rec_sccinverse M Z TNumber TField Dinverse Glowest Gpadded Gmultiplied Gtimes n
    exact okinverse Dinverse.F M Z TNumber TField (Glowest.lift (Nat.le_add_right k n)) (Dinverse.cal ih) (Gpadded.lift (Nat.le_add_right k n)) (Gmultiplied.lift (Nat.le_add_right k n)) (Gtimes.lift (Nat.le_add_right k n))
theorem rec_sccimage (M : Names mg) (Z : CtxN P w K mg S) (TNumber : ClsC K (S.cl 0) ["tower", "element"]) (TField : ClsC K (S.cl 1) ["tower", "known_roots"]) (Dimage : DefE K mg "image" simage ["tower", "images", "vector"]) (Gpadded : Cal P w K mg base k "padded" ["vector", "size"] (SpD S.cls fpadded)) (Gwidened : Cal P w K mg base k "widened" ["element", "size"] (SpD S.cls fwidened)) (Gelement_product : Cal P w K mg base k "element_product" ["tower", "one", "other"] (SpD S.cls felement_product)) (Gelement_sum : Cal P w K mg base k "element_sum" ["one", "other"] (SpD S.cls felement_sum)) : ∀ n : Nat, FnOk P w K mg base CX0 (k + n) Dimage.f Dimage.fd ["tower", "images", "vector"] (SpD S.cls (sccimage n 0))
  | 0 => fn_none fun _ => rfl
  | n + 1 => by
    have ih := rec_sccimage M Z TNumber TField Dimage Gpadded Gwidened Gelement_product Gelement_sum n
    exact okimage Dimage.F M Z TNumber TField (Gpadded.lift (Nat.le_add_right k n)) (Dimage.cal ih) (Gwidened.lift (Nat.le_add_right k n)) (Gelement_product.lift (Nat.le_add_right k n)) (Gelement_sum.lift (Nat.le_add_right k n))
set_option maxHeartbeats 0 in
theorem chain  {f : Addr} {fd : FuncData} (F : Fun K "law" "law" slaw f fd) (M : Names mg) (Z : CtxN P w K mg S) (TNumber : ClsC K (S.cl 0) ["tower", "element"]) (TField : ClsC K (S.cl 1) ["tower", "known_roots"]) {aZERO : Addr} (DZERO : GTup K mg "ZERO" aZERO zeroD) (D_law_state : DefE K mg "_law_state" s_law_state ["script"]) (D_law_take : DefE K mg "_law_take" s_law_take ["state", "many"]) (Dplus : DefE K mg "plus" splus ["one", "other"]) (Dminus : DefE K mg "minus" sminus ["one", "other"]) (Dtimes : DefE K mg "times" stimes ["vector", "factor"]) (Dpadded : DefE K mg "padded" spadded ["vector", "size"]) (Dmultiplied : DefE K mg "multiplied" smultiplied ["tower", "one", "other"]) (Dlowest : DefE K mg "lowest" slowest ["vector", "scale"]) (Dinverse : DefE K mg "inverse" sinverse ["tower", "vector"]) (Delement_sum : DefE K mg "element_sum" selement_sum ["one", "other"]) (Delement_difference : DefE K mg "element_difference" selement_difference ["one", "other"]) (Delement_product : DefE K mg "element_product" selement_product ["tower", "one", "other"]) (D_shares : DefE K mg "_shares" s_shares ["vector"]) (D_chosen : DefE K mg "_chosen" s_chosen ["vector", "needed"]) (Dtrimmed : DefE K mg "trimmed" strimmed ["tower", "element"]) (Dbound : DefE K mg "bound" sbound ["vector", "basis"]) (D_unit : DefE K mg "_unit" s_unit ["bits"]) (D_root : DefE K mg "_root" s_root ["square", "bits"]) (D_scaled : DefE K mg "_scaled" s_scaled ["one", "other", "bits"]) (D_bases : DefE K mg "_bases" s_bases ["tower", "bits"]) (D_count_below_first : DefE K mg "_count_below_first" s_count_below_first ["found"]) (Dplace_of : DefE K mg "place_of" splace_of ["tower", "vector"]) (Dwidened : DefE K mg "widened" swidened ["element", "size"]) (Dimage : DefE K mg "image" simage ["tower", "images", "vector"]) (Dimage_of_element : DefE K mg "image_of_element" simage_of_element ["tower", "images", "element"]) (Djoined : DefE K mg "joined" sjoined ["tower", "other", "most"]) (Dprimitive : DefE K mg "primitive" sprimitive ["polynomial"]) (Dcharacteristic : DefE K mg "characteristic" scharacteristic ["tower", "vector", "base"]) (D_polynomial_root : DefE K mg "_polynomial_root" s_polynomial_root ["tower", "terms"]) (D_least_terms : DefE K mg "_least_terms" s_least_terms ["tower", "vector", "base"]) (D_degree : DefE K mg "_degree" s_degree ["tower", "element", "base"]) (Dleast_polynomial : DefE K mg "least_polynomial" sleast_polynomial ["tower", "element"]) (Dleast_field : DefE K mg "least_field" sleast_field ["tower", "element"]) (D_rank : DefE K mg "_rank" s_rank ["tower"]) (D_all_in_one_tower : DefE K mg "_all_in_one_tower" s_all_in_one_tower ["pairs", "most"]) (Dall_together : DefE K mg "all_together" sall_together ["pairs"]) (Dnumber_in : DefE K mg "number_in" snumber_in ["tower", "element"]) (DNumber_polynomial : MetE K S.cls "polynomial" "Number.polynomial" sNumber_polynomial ["self"]) (DNumber_place : MetE K S.cls "place" "Number.place" sNumber_place ["self"]) (D_shortest : DefE K mg "_shortest" s_shortest ["element"]) (DField_holding : MetE K (S.cl 1) "holding" "Field.holding" sField_holding ["self", "numbers"]) (DField_number : MetE K (S.cl 1) "number" "Field.number" sField_number ["self", "element"]) (D_alike : DefE K mg "_alike" s_alike ["one", "other"]) (DField_minus : MetE K (S.cl 1) "minus" "Field.minus" sField_minus ["self", "one", "other"]) (DField_product : MetE K (S.cl 1) "product" "Field.product" sField_product ["self", "one", "other"]) (DField_inverted : MetE K (S.cl 1) "inverted" "Field.inverted" sField_inverted ["self", "element"]) (Dwhole_element : DefE K mg "whole_element" swhole_element ["n"]) (D_cross : DefE K mg "_cross" s_cross ["field", "one", "other"]) (Dline_shape : DefE K mg "line_shape" sline_shape ["field", "one", "other"]) (D_meets_of_lines : DefE K mg "_meets_of_lines" s_meets_of_lines ["field", "one", "other"]) (Dshape_meets : DefE K mg "shape_meets" sshape_meets ["field", "one", "other"]) (D_points_in : DefE K mg "_points_in" s_points_in ["field", "points"]) (D_shape : DefE K mg "_shape" s_shape ["field", "word", "points"]) (D_two_shapes : DefE K mg "_two_shapes" s_two_shapes ["field", "one", "other"]) (Dmeets : DefE K mg "meets" smeets ["one", "other"]) (D_law_gcd : DefE K mg "_law_gcd" s_law_gcd ["a", "b"]) (D_law_bits : DefE K mg "_law_bits" s_law_bits ["mask", "radicands"]) (D_law_times : DefE K mg "_law_times" s_law_times ["one", "other", "radicands"]) (D_law_odd : DefE K mg "_law_odd" s_law_odd ["mask"]) (D_law_turned : DefE K mg "_law_turned" s_law_turned ["vector", "mask"]) (D_law_conjugates : DefE K mg "_law_conjugates" s_law_conjugates ["vector"]) (D_law_sign : DefE K mg "_law_sign" s_law_sign ["vector", "radicands"]) (D_law_less : DefE K mg "_law_less" s_law_less ["one", "other", "radicands"]) (D_law_primitive : DefE K mg "_law_primitive" s_law_primitive ["row"]) (D_law_least : DefE K mg "_law_least" s_law_least ["vector", "den", "radicands"]) (D_law_place : DefE K mg "_law_place" s_law_place ["vector", "radicands"]) (D_law_is : DefE K mg "_law_is" s_law_is ["number", "vector", "den", "radicands"]) (D_law_line : DefE K mg "_law_line" s_law_line ["one", "other"]) (D_law_crossing : DefE K mg "_law_crossing" s_law_crossing ["one", "other"]) (D_law_made_point : DefE K mg "_law_made_point" s_law_made_point ["point"]) (D_law_are : DefE K mg "_law_are" s_law_are ["told", "due"]) (D_law_point : DefE K mg "_law_point" s_law_point ["state", "most"]) (D_law_two_points : DefE K mg "_law_two_points" s_law_two_points ["state", "most"]) {giNumber : Addr} {gdNumber : FuncData} {dsNumber : List Value} (INumber : FunD K "__init__" "Number.__init__" (defArgs sNumber___init__) (defBody sNumber___init__) (defScope sNumber___init__) [.int 1] [] giNumber gdNumber) (BNumber : Binds K gdNumber ["self", "n", "d"] []) (BdNumber : Binds K gdNumber ["self", "n", "d"] dsNumber) (VNumber : Vals [V.int 1] dsNumber) (MNumber : Mk K (S.cl 0) giNumber) (HNumber : mg "Number" = some (.ref (S.cl 0))) {giField : Addr} {gdField : FuncData} (IField : Fun K "__init__" "Field.__init__" sField___init__ giField gdField) (BField : Binds K gdField ["self"] []) (MField : Mk K (S.cl 1) giField) (HField : mg "Field" = some (.ref (S.cl 1))) : FnOk P w K mg base CX0 34 f fd ["script"] (splaw K) := by
  have C_law_state : Cal P w K mg base 1 "_law_state" ["script"] (sp_law_state K) := D_law_state.cal (ok_law_state D_law_state.F M)
  have C_law_take : Cal P w K mg base 1 "_law_take" ["state", "many"] (SpO S f_law_take) := D_law_take.cal (drawT_ok Z.hK rfl (ok_law_take D_law_take.F M))
  have Cplus : Cal P w K mg base 1 "plus" ["one", "other"] (SpD S.cls fplus) := Dplus.cal (okplus Dplus.F M Z TNumber TField)
  have Cminus : Cal P w K mg base 1 "minus" ["one", "other"] (SpD S.cls fminus) := Dminus.cal (okminus Dminus.F M Z TNumber TField)
  have Ctimes : Cal P w K mg base 1 "times" ["vector", "factor"] (SpD S.cls ftimes) := Dtimes.cal (oktimes Dtimes.F M Z TNumber TField)
  have Cpadded : Cal P w K mg base 1 "padded" ["vector", "size"] (SpD S.cls fpadded) := Dpadded.cal (okpadded Dpadded.F M Z TNumber TField)
  have Rmultiplied := rec_sccmultiplied (P := P) (w := w) (base := base) (S := S) (k := 1) M Z TNumber TField Dmultiplied (Cplus.lift (by decide)) (Cminus.lift (by decide)) 12
  have Cmultiplied : Cal P w K mg base 13 "multiplied" ["tower", "one", "other"] (SpD S.cls fmultiplied) := Dmultiplied.cal Rmultiplied
  have Clowest : Cal P w K mg base 1 "lowest" ["vector", "scale"] (SpD S.cls flowest) := Dlowest.cal (oklowest Dlowest.F M Z TNumber TField)
  have Rinverse := rec_sccinverse (P := P) (w := w) (base := base) (S := S) (k := 13) M Z TNumber TField Dinverse (Clowest.lift (by decide)) (Cpadded.lift (by decide)) (Cmultiplied.lift (by decide)) (Ctimes.lift (by decide)) 12
  have Cinverse : Cal P w K mg base 25 "inverse" ["tower", "vector"] (SpD S.cls finverse) := Dinverse.cal Rinverse
  have Celement_sum : Cal P w K mg base 2 "element_sum" ["one", "other"] (SpD S.cls felement_sum) := Delement_sum.cal (okelement_sum Delement_sum.F M Z TNumber TField (Ctimes.lift (by decide)) (Cplus.lift (by decide)) (Clowest.lift (by decide)))
  have Celement_difference : Cal P w K mg base 2 "element_difference" ["one", "other"] (SpD S.cls felement_difference) := Delement_difference.cal (okelement_difference Delement_difference.F M Z TNumber TField (Ctimes.lift (by decide)) (Cminus.lift (by decide)) (Clowest.lift (by decide)))
  have Celement_product : Cal P w K mg base 14 "element_product" ["tower", "one", "other"] (SpD S.cls felement_product) := Delement_product.cal (okelement_product Delement_product.F M Z TNumber TField (Cmultiplied.lift (by decide)) (Clowest.lift (by decide)))
  have C_shares : Cal P w K mg base 1 "_shares" ["vector"] (SpD S.cls f_shares) := D_shares.cal (ok_shares D_shares.F M Z TNumber TField)
  have C_chosen : Cal P w K mg base 1 "_chosen" ["vector", "needed"] (SpD S.cls f_chosen) := D_chosen.cal (ok_chosen D_chosen.F M Z TNumber TField)
  have Ctrimmed : Cal P w K mg base 2 "trimmed" ["tower", "element"] (SpD S.cls ftrimmed) := Dtrimmed.cal (oktrimmed Dtrimmed.F M Z TNumber TField (C_shares.lift (by decide)) (C_chosen.lift (by decide)))
  have Cbound : Cal P w K mg base 1 "bound" ["vector", "basis"] (SpD S.cls fbound) := Dbound.cal (okbound Dbound.F M Z TNumber TField)
  have C_unit : Cal P w K mg base 1 "_unit" ["bits"] (SpD S.cls f_unit) := D_unit.cal (ok_unit D_unit.F M Z TNumber TField)
  have C_root : Cal P w K mg base 1 "_root" ["square", "bits"] (SpD S.cls f_root) := D_root.cal (ok_root D_root.F M Z TNumber TField)
  have C_scaled : Cal P w K mg base 1 "_scaled" ["one", "other", "bits"] (SpD S.cls f_scaled) := D_scaled.cal (ok_scaled D_scaled.F M Z TNumber TField)
  have C_bases : Cal P w K mg base 2 "_bases" ["tower", "bits"] (SpD S.cls f_bases) := D_bases.cal (ok_bases D_bases.F M Z TNumber TField (C_unit.lift (by decide)) (Cbound.lift (by decide)) (C_root.lift (by decide)) (C_scaled.lift (by decide)))
  have C_count_below_first : Cal P w K mg base 1 "_count_below_first" ["found"] (SpD S.cls f_count_below_first) := D_count_below_first.cal (ok_count_below_first D_count_below_first.F M Z TNumber TField)
  have Cplace_of : Cal P w K mg base 3 "place_of" ["tower", "vector"] (SpD S.cls fplace_of) := Dplace_of.cal (okplace_of Dplace_of.F M Z TNumber TField (C_bases.lift (by decide)) (Cbound.lift (by decide)) (C_count_below_first.lift (by decide)))
  have Cwidened : Cal P w K mg base 2 "widened" ["element", "size"] (SpD S.cls fwidened) := Dwidened.cal (okwidened Dwidened.F M Z TNumber TField (Cpadded.lift (by decide)))
  have Rimage := rec_sccimage (P := P) (w := w) (base := base) (S := S) (k := 14) M Z TNumber TField Dimage (Cpadded.lift (by decide)) (Cwidened.lift (by decide)) (Celement_product.lift (by decide)) (Celement_sum.lift (by decide)) 12
  have Cimage : Cal P w K mg base 26 "image" ["tower", "images", "vector"] (SpD S.cls fimage) := Dimage.cal Rimage
  have Cimage_of_element : Cal P w K mg base 27 "image_of_element" ["tower", "images", "element"] (SpD S.cls fimage_of_element) := Dimage_of_element.cal (okimage_of_element Dimage_of_element.F M Z TNumber TField (Cimage.lift (by decide)) (Clowest.lift (by decide)))
  have Cjoined : Cal P w K mg base 27 "joined" ["tower", "other", "most"] (SpD S.cls fjoined) := Djoined.cal (okjoined Djoined.F M Z TNumber TField (Cimage.lift (by decide)))
  have Cprimitive : Cal P w K mg base 1 "primitive" ["polynomial"] (SpD S.cls fprimitive) := Dprimitive.cal (okprimitive Dprimitive.F M Z TNumber TField)
  have Ccharacteristic : Cal P w K mg base 2 "characteristic" ["tower", "vector", "base"] (SpD S.cls fcharacteristic) := Dcharacteristic.cal (okcharacteristic Dcharacteristic.F M Z TNumber TField (Cpadded.lift (by decide)) (Ctimes.lift (by decide)) (Cminus.lift (by decide)))
  have C_polynomial_root : Cal P w K mg base 15 "_polynomial_root" ["tower", "terms"] (SpD S.cls f_polynomial_root) := D_polynomial_root.cal (ok_polynomial_root D_polynomial_root.F M Z TNumber TField (Celement_product.lift (by decide)) (Celement_difference.lift (by decide)) (Clowest.lift (by decide)))
  have C_least_terms : Cal P w K mg base 16 "_least_terms" ["tower", "vector", "base"] (SpD S.cls f_least_terms) := D_least_terms.cal (ok_least_terms D_least_terms.F M Z TNumber TField (Ccharacteristic.lift (by decide)) (C_polynomial_root.lift (by decide)))
  have C_degree : Cal P w K mg base 17 "_degree" ["tower", "element", "base"] (SpD S.cls f_degree) := D_degree.cal (ok_degree D_degree.F M Z TNumber TField (C_least_terms.lift (by decide)))
  have Cleast_polynomial : Cal P w K mg base 17 "least_polynomial" ["tower", "element"] (SpD S.cls fleast_polynomial) := Dleast_polynomial.cal (okleast_polynomial Dleast_polynomial.F M Z TNumber TField (C_least_terms.lift (by decide)) (Cprimitive.lift (by decide)))
  have Cleast_field : Cal P w K mg base 18 "least_field" ["tower", "element"] (SpD S.cls fleast_field) := Dleast_field.cal (okleast_field Dleast_field.F M Z TNumber TField (C_degree.lift (by decide)))
  have C_rank : Cal P w K mg base 1 "_rank" ["tower"] (SpD S.cls f_rank) := D_rank.cal (ok_rank D_rank.F M Z TNumber TField)
  have C_all_in_one_tower : Cal P w K mg base 28 "_all_in_one_tower" ["pairs", "most"] (SpD S.cls f_all_in_one_tower) := D_all_in_one_tower.cal (ok_all_in_one_tower D_all_in_one_tower.F M Z TNumber TField (C_rank.lift (by decide)) (Cjoined.lift (by decide)) (Cimage_of_element.lift (by decide)))
  have Call_together : Cal P w K mg base 29 "all_together" ["pairs"] (SpD S.cls fall_together) := Dall_together.cal (okall_together Dall_together.F M Z TNumber TField (C_all_in_one_tower.lift (by decide)) (Cleast_field.lift (by decide)))
  have ONumber : FnOk P w K mg base CX0 2 giNumber gdNumber ["self", "n", "d"] (SpS S fNumber___init__) := okNumber___init__ INumber M Z TNumber TField (Clowest.lift (by decide))
  have CmkNumber : MkD P w K mg base 3 S 0 "Number" ["self", "n", "d"] fNumber___init__ 1 := ⟨⟨2, by decide, giNumber, gdNumber, ONumber, BNumber, MNumber, HNumber⟩, dsNumber, BdNumber, VNumber⟩
  have Cnumber_in : Cal P w K mg base 4 "number_in" ["tower", "element"] (SpD S.cls fnumber_in) := Dnumber_in.cal (oknumber_in Dnumber_in.F M Z TNumber TField (Ctrimmed.lift (by decide)) (CmkNumber.lift (by decide)))
  have CNumber_polynomial : MCal P w K mg base 18 S.cls "polynomial" ["self"] (SpD S.cls fNumber_polynomial) := DNumber_polynomial.cal (okNumber_polynomial DNumber_polynomial.F M Z TNumber TField (Cleast_polynomial.lift (by decide)))
  have CNumber_place : MCal P w K mg base 19 S.cls "place" ["self"] (SpD S.cls fNumber_place) := DNumber_place.cal (okNumber_place DNumber_place.F M Z TNumber TField (Cleast_field.lift (by decide)) (Cplace_of.lift (by decide)))
  have OField : FnOk P w K mg base CX0 1 giField gdField ["self"] (SpS S fField___init__) := okField___init__ IField M Z TNumber TField
  have CmkField : MkC P w K mg base 2 S 1 "Field" ["self"] fField___init__ := ⟨1, by decide, giField, gdField, OField, BField, MField, HField⟩
  have C_shortest : Cal P w K mg base 1 "_shortest" ["element"] (SpD S.cls f_shortest) := D_shortest.cal (ok_shortest D_shortest.F M Z TNumber TField)
  have CField_holding : MCal P w K mg base 30 (S.cl 1) "holding" ["self", "numbers"] (SpS S fField_holding) := DField_holding.cal (okField_holding DField_holding.F M Z TNumber TField (Call_together.lift (by decide)) (C_shortest.lift (by decide)))
  have CField_number : MCal P w K mg base 5 (S.cl 1) "number" ["self", "element"] (SpS S fField_number) := DField_number.cal (okField_number DField_number.F M Z TNumber TField (Cnumber_in.lift (by decide)))
  have C_alike : Cal P w K mg base 3 "_alike" ["one", "other"] (SpD S.cls f_alike) := D_alike.cal (ok_alike D_alike.F M Z TNumber TField (Cwidened.lift (by decide)))
  have CField_minus : MCal P w K mg base 4 (S.cl 1) "minus" ["self", "one", "other"] (SpS S fField_minus) := DField_minus.cal (okField_minus DField_minus.F M Z TNumber TField (C_alike.lift (by decide)) (Celement_difference.lift (by decide)) (C_shortest.lift (by decide)))
  have CField_product : MCal P w K mg base 15 (S.cl 1) "product" ["self", "one", "other"] (SpS S fField_product) := DField_product.cal (okField_product DField_product.F M Z TNumber TField (C_alike.lift (by decide)) (C_shortest.lift (by decide)) (Celement_product.lift (by decide)))
  have CField_inverted : MCal P w K mg base 26 (S.cl 1) "inverted" ["self", "element"] (SpS S fField_inverted) := DField_inverted.cal (okField_inverted DField_inverted.F M Z TNumber TField (Cinverse.lift (by decide)) (Ctimes.lift (by decide)) (Clowest.lift (by decide)) (C_shortest.lift (by decide)))
  have Cwhole_element : Cal P w K mg base 1 "whole_element" ["n"] (SpD S.cls fwhole_element) := Dwhole_element.cal (okwhole_element Dwhole_element.F M Z TNumber TField)
  have C_cross : Cal P w K mg base 16 "_cross" ["field", "one", "other"] (SpS S f_cross) := D_cross.cal (ok_cross D_cross.F M Z TNumber TField (CField_minus.lift (by decide)) (CField_product.lift (by decide)))
  have Cline_shape : Cal P w K mg base 17 "line_shape" ["field", "one", "other"] (SpS S fline_shape) := Dline_shape.cal (okline_shape Dline_shape.F M Z TNumber TField (CField_minus.lift (by decide)) (C_cross.lift (by decide)))
  have C_meets_of_lines : Cal P w K mg base 27 "_meets_of_lines" ["field", "one", "other"] (SpS S f_meets_of_lines) := D_meets_of_lines.cal (ok_meets_of_lines D_meets_of_lines.F M Z TNumber TField DZERO (C_cross.lift (by decide)) (CField_inverted.lift (by decide)) (CField_product.lift (by decide)))
  have Cshape_meets : Cal P w K mg base 28 "shape_meets" ["field", "one", "other"] (SpS S fshape_meets) := Dshape_meets.cal (okshape_meets Dshape_meets.F M Z TNumber TField (C_meets_of_lines.lift (by decide)))
  have C_points_in : Cal P w K mg base 31 "_points_in" ["field", "points"] (SpS S f_points_in) := D_points_in.cal (ok_points_in D_points_in.F M Z TNumber TField (CField_holding.lift (by decide)))
  have C_shape : Cal P w K mg base 18 "_shape" ["field", "word", "points"] (SpS S f_shape) := D_shape.cal (ok_shape D_shape.F M Z TNumber TField (Cline_shape.lift (by decide)))
  have C_two_shapes : Cal P w K mg base 32 "_two_shapes" ["field", "one", "other"] (SpS S f_two_shapes) := D_two_shapes.cal (ok_two_shapes D_two_shapes.F M Z TNumber TField (C_points_in.lift (by decide)) (C_shape.lift (by decide)))
  have Cmeets : Cal P w K mg base 33 "meets" ["one", "other"] (SpD S.cls fmeets) := Dmeets.cal (okmeets Dmeets.F M Z TNumber TField (CmkField.lift (by decide)) (C_two_shapes.lift (by decide)) (Cshape_meets.lift (by decide)) (CField_number.lift (by decide)))
  have C_law_gcd : Cal P w K mg base 1 "_law_gcd" ["a", "b"] (SpD S.cls f_law_gcd) := D_law_gcd.cal (ok_law_gcd D_law_gcd.F M Z TNumber TField)
  have C_law_bits : Cal P w K mg base 1 "_law_bits" ["mask", "radicands"] (SpD S.cls f_law_bits) := D_law_bits.cal (ok_law_bits D_law_bits.F M Z TNumber TField)
  have C_law_times : Cal P w K mg base 2 "_law_times" ["one", "other", "radicands"] (SpD S.cls f_law_times) := D_law_times.cal (ok_law_times D_law_times.F M Z TNumber TField (C_law_bits.lift (by decide)))
  have C_law_odd : Cal P w K mg base 1 "_law_odd" ["mask"] (SpD S.cls f_law_odd) := D_law_odd.cal (ok_law_odd D_law_odd.F M Z TNumber TField)
  have C_law_turned : Cal P w K mg base 2 "_law_turned" ["vector", "mask"] (SpD S.cls f_law_turned) := D_law_turned.cal (ok_law_turned D_law_turned.F M Z TNumber TField (C_law_odd.lift (by decide)))
  have C_law_conjugates : Cal P w K mg base 3 "_law_conjugates" ["vector"] (SpD S.cls f_law_conjugates) := D_law_conjugates.cal (ok_law_conjugates D_law_conjugates.F M Z TNumber TField (C_law_turned.lift (by decide)))
  have C_law_sign : Cal P w K mg base 1 "_law_sign" ["vector", "radicands"] (SpD S.cls f_law_sign) := D_law_sign.cal (ok_law_sign D_law_sign.F M Z TNumber TField)
  have C_law_less : Cal P w K mg base 2 "_law_less" ["one", "other", "radicands"] (SpD S.cls f_law_less) := D_law_less.cal (ok_law_less D_law_less.F M Z TNumber TField (C_law_sign.lift (by decide)))
  have C_law_primitive : Cal P w K mg base 2 "_law_primitive" ["row"] (SpD S.cls f_law_primitive) := D_law_primitive.cal (ok_law_primitive D_law_primitive.F M Z TNumber TField (C_law_gcd.lift (by decide)))
  have C_law_least : Cal P w K mg base 4 "_law_least" ["vector", "den", "radicands"] (SpD S.cls f_law_least) := D_law_least.cal (ok_law_least D_law_least.F M Z TNumber TField (C_law_times.lift (by decide)) (C_law_conjugates.lift (by decide)) (C_law_primitive.lift (by decide)))
  have C_law_place : Cal P w K mg base 4 "_law_place" ["vector", "radicands"] (SpD S.cls f_law_place) := D_law_place.cal (ok_law_place D_law_place.F M Z TNumber TField (C_law_conjugates.lift (by decide)) (C_law_less.lift (by decide)))
  have C_law_is : Cal P w K mg base 20 "_law_is" ["number", "vector", "den", "radicands"] (SpD S.cls f_law_is) := D_law_is.cal (ok_law_is D_law_is.F M Z TNumber TField (CNumber_polynomial.lift (by decide)) (C_law_least.lift (by decide)) (CNumber_place.lift (by decide)) (C_law_place.lift (by decide)))
  have C_law_line : Cal P w K mg base 1 "_law_line" ["one", "other"] (SpD S.cls f_law_line) := D_law_line.cal (ok_law_line D_law_line.F M Z TNumber TField)
  have C_law_crossing : Cal P w K mg base 1 "_law_crossing" ["one", "other"] (SpD S.cls f_law_crossing) := D_law_crossing.cal (ok_law_crossing D_law_crossing.F M Z TNumber TField)
  have C_law_made_point : Cal P w K mg base 4 "_law_made_point" ["point"] (SpD S.cls f_law_made_point) := D_law_made_point.cal (ok_law_made_point D_law_made_point.F M Z TNumber TField (CmkNumber.lift (by decide)))
  have C_law_are : Cal P w K mg base 21 "_law_are" ["told", "due"] (SpD S.cls f_law_are) := D_law_are.cal (ok_law_are D_law_are.F M Z TNumber TField (C_law_is.lift (by decide)))
  have C_law_point : Cal P w K mg base 2 "_law_point" ["state", "most"] (SpO S f_law_point) := D_law_point.cal (ok_law_point D_law_point.F M Z TNumber TField (C_law_take.lift (by decide)))
  have C_law_two_points : Cal P w K mg base 3 "_law_two_points" ["state", "most"] (SpO S f_law_two_points) := D_law_two_points.cal (ok_law_two_points D_law_two_points.F M Z TNumber TField (C_law_point.lift (by decide)))
  exact oklaw (k := 33) Z.hK F M (C_law_state.lift (by decide)) fun cdv A outer s H E hr => suitelaw M Z TNumber TField (C_law_two_points.lift (by decide)) (C_law_take.lift (by decide)) (C_law_line.lift (by decide)) (C_law_crossing.lift (by decide)) (C_law_made_point.lift (by decide)) (Cmeets.lift (by decide)) (C_law_are.lift (by decide)) cdv A outer s H E hr
end
end KW

set_option maxHeartbeats 0
namespace KW
open PySem PySem.Spec PyProof.Rows L2 KG DN
theorem factsH  {P : Program} {w : World} {K : PySem.W.Frag} {h : Heap} {mg : Str → Option Value} {f : Addr} (X : K.In h) (G : h.Ns mainGlobals mg) (hfa : mg ("law" : Str) = some (.ref f)) (c : SaysH faH fnH exH tsH w K) :
    ∃ fd : FuncData, (∀ (s : Shared) (v : Value), BindsTo s fd ⟨[v], []⟩ [("script", v)]) ∧ ∀ base : Heap, K.In base → base.Ns mainGlobals mg → FnOk P w K mg base CX0 34 f fd ["script"] (splaw K) := by
  obtain ⟨fdlaw, Glaw⟩ := c.d.def_ 0 (d := ddlaw) rfl
  have e := hfa.symm.trans (He.glo_ok X G (c.d.fact 0 (f := .glo "law") rfl))
  cases e
  have Flaw : Fun K "law" "law" slaw _ fdlaw := fun_ofD (F := fun _ => True) Glaw
  let S : CS := ⟨He.ga K "Number", fun t => match t with | 1 => He.ga K "Field" | _ => He.ga K "Number", P, w, K⟩
  obtain ⟨D_law_state⟩ := def_mkH (st := s_law_state) (ps := ["script"]) (c.d.def_ 1 (d := dd_law_state) rfl) (He.glo_ok X G (c.d.fact 1 (f := .glo "_law_state") rfl)) fun _ _ _ _ _ _ us hl => match us, hl with | [_], _ => rfl
  obtain ⟨D_law_take⟩ := def_mkH (st := s_law_take) (ps := ["state", "many"]) (c.d.def_ 2 (d := dd_law_take) rfl) (He.glo_ok X G (c.d.fact 2 (f := .glo "_law_take") rfl)) fun _ _ _ _ _ _ us hl => match us, hl with | [_, _], _ => rfl
  obtain ⟨Dplus⟩ := def_mkH (st := splus) (ps := ["one", "other"]) (c.d.def_ 3 (d := ddplus) rfl) (He.glo_ok X G (c.d.fact 3 (f := .glo "plus") rfl)) fun _ _ _ _ _ _ us hl => match us, hl with | [_, _], _ => rfl
  obtain ⟨Dminus⟩ := def_mkH (st := sminus) (ps := ["one", "other"]) (c.d.def_ 4 (d := ddminus) rfl) (He.glo_ok X G (c.d.fact 4 (f := .glo "minus") rfl)) fun _ _ _ _ _ _ us hl => match us, hl with | [_, _], _ => rfl
  obtain ⟨Dtimes⟩ := def_mkH (st := stimes) (ps := ["vector", "factor"]) (c.d.def_ 5 (d := ddtimes) rfl) (He.glo_ok X G (c.d.fact 5 (f := .glo "times") rfl)) fun _ _ _ _ _ _ us hl => match us, hl with | [_, _], _ => rfl
  obtain ⟨Dpadded⟩ := def_mkH (st := spadded) (ps := ["vector", "size"]) (c.d.def_ 6 (d := ddpadded) rfl) (He.glo_ok X G (c.d.fact 6 (f := .glo "padded") rfl)) fun _ _ _ _ _ _ us hl => match us, hl with | [_, _], _ => rfl
  obtain ⟨Dmultiplied⟩ := def_mkH (st := smultiplied) (ps := ["tower", "one", "other"]) (c.d.def_ 7 (d := ddmultiplied) rfl) (He.glo_ok X G (c.d.fact 7 (f := .glo "multiplied") rfl)) fun _ _ _ _ _ _ us hl => match us, hl with | [_, _, _], _ => rfl
  obtain ⟨Dlowest⟩ := def_mkH (st := slowest) (ps := ["vector", "scale"]) (c.d.def_ 8 (d := ddlowest) rfl) (He.glo_ok X G (c.d.fact 8 (f := .glo "lowest") rfl)) fun _ _ _ _ _ _ us hl => match us, hl with | [_, _], _ => rfl
  obtain ⟨Dinverse⟩ := def_mkH (st := sinverse) (ps := ["tower", "vector"]) (c.d.def_ 9 (d := ddinverse) rfl) (He.glo_ok X G (c.d.fact 9 (f := .glo "inverse") rfl)) fun _ _ _ _ _ _ us hl => match us, hl with | [_, _], _ => rfl
  obtain ⟨Delement_sum⟩ := def_mkH (st := selement_sum) (ps := ["one", "other"]) (c.d.def_ 10 (d := ddelement_sum) rfl) (He.glo_ok X G (c.d.fact 10 (f := .glo "element_sum") rfl)) fun _ _ _ _ _ _ us hl => match us, hl with | [_, _], _ => rfl
  obtain ⟨Delement_difference⟩ := def_mkH (st := selement_difference) (ps := ["one", "other"]) (c.d.def_ 11 (d := ddelement_difference) rfl) (He.glo_ok X G (c.d.fact 11 (f := .glo "element_difference") rfl)) fun _ _ _ _ _ _ us hl => match us, hl with | [_, _], _ => rfl
  obtain ⟨Delement_product⟩ := def_mkH (st := selement_product) (ps := ["tower", "one", "other"]) (c.d.def_ 12 (d := ddelement_product) rfl) (He.glo_ok X G (c.d.fact 12 (f := .glo "element_product") rfl)) fun _ _ _ _ _ _ us hl => match us, hl with | [_, _, _], _ => rfl
  obtain ⟨D_shares⟩ := def_mkH (st := s_shares) (ps := ["vector"]) (c.d.def_ 13 (d := dd_shares) rfl) (He.glo_ok X G (c.d.fact 13 (f := .glo "_shares") rfl)) fun _ _ _ _ _ _ us hl => match us, hl with | [_], _ => rfl
  obtain ⟨D_chosen⟩ := def_mkH (st := s_chosen) (ps := ["vector", "needed"]) (c.d.def_ 14 (d := dd_chosen) rfl) (He.glo_ok X G (c.d.fact 14 (f := .glo "_chosen") rfl)) fun _ _ _ _ _ _ us hl => match us, hl with | [_, _], _ => rfl
  obtain ⟨Dtrimmed⟩ := def_mkH (st := strimmed) (ps := ["tower", "element"]) (c.d.def_ 15 (d := ddtrimmed) rfl) (He.glo_ok X G (c.d.fact 15 (f := .glo "trimmed") rfl)) fun _ _ _ _ _ _ us hl => match us, hl with | [_, _], _ => rfl
  obtain ⟨Dbound⟩ := def_mkH (st := sbound) (ps := ["vector", "basis"]) (c.d.def_ 16 (d := ddbound) rfl) (He.glo_ok X G (c.d.fact 16 (f := .glo "bound") rfl)) fun _ _ _ _ _ _ us hl => match us, hl with | [_, _], _ => rfl
  obtain ⟨D_unit⟩ := def_mkH (st := s_unit) (ps := ["bits"]) (c.d.def_ 17 (d := dd_unit) rfl) (He.glo_ok X G (c.d.fact 17 (f := .glo "_unit") rfl)) fun _ _ _ _ _ _ us hl => match us, hl with | [_], _ => rfl
  obtain ⟨D_root⟩ := def_mkH (st := s_root) (ps := ["square", "bits"]) (c.d.def_ 18 (d := dd_root) rfl) (He.glo_ok X G (c.d.fact 18 (f := .glo "_root") rfl)) fun _ _ _ _ _ _ us hl => match us, hl with | [_, _], _ => rfl
  obtain ⟨D_scaled⟩ := def_mkH (st := s_scaled) (ps := ["one", "other", "bits"]) (c.d.def_ 19 (d := dd_scaled) rfl) (He.glo_ok X G (c.d.fact 19 (f := .glo "_scaled") rfl)) fun _ _ _ _ _ _ us hl => match us, hl with | [_, _, _], _ => rfl
  obtain ⟨D_bases⟩ := def_mkH (st := s_bases) (ps := ["tower", "bits"]) (c.d.def_ 20 (d := dd_bases) rfl) (He.glo_ok X G (c.d.fact 20 (f := .glo "_bases") rfl)) fun _ _ _ _ _ _ us hl => match us, hl with | [_, _], _ => rfl
  obtain ⟨D_count_below_first⟩ := def_mkH (st := s_count_below_first) (ps := ["found"]) (c.d.def_ 21 (d := dd_count_below_first) rfl) (He.glo_ok X G (c.d.fact 21 (f := .glo "_count_below_first") rfl)) fun _ _ _ _ _ _ us hl => match us, hl with | [_], _ => rfl
  obtain ⟨Dplace_of⟩ := def_mkH (st := splace_of) (ps := ["tower", "vector"]) (c.d.def_ 22 (d := ddplace_of) rfl) (He.glo_ok X G (c.d.fact 22 (f := .glo "place_of") rfl)) fun _ _ _ _ _ _ us hl => match us, hl with | [_, _], _ => rfl
  obtain ⟨Dwidened⟩ := def_mkH (st := swidened) (ps := ["element", "size"]) (c.d.def_ 23 (d := ddwidened) rfl) (He.glo_ok X G (c.d.fact 23 (f := .glo "widened") rfl)) fun _ _ _ _ _ _ us hl => match us, hl with | [_, _], _ => rfl
  obtain ⟨Dimage⟩ := def_mkH (st := simage) (ps := ["tower", "images", "vector"]) (c.d.def_ 24 (d := ddimage) rfl) (He.glo_ok X G (c.d.fact 24 (f := .glo "image") rfl)) fun _ _ _ _ _ _ us hl => match us, hl with | [_, _, _], _ => rfl
  obtain ⟨Dimage_of_element⟩ := def_mkH (st := simage_of_element) (ps := ["tower", "images", "element"]) (c.d.def_ 25 (d := ddimage_of_element) rfl) (He.glo_ok X G (c.d.fact 25 (f := .glo "image_of_element") rfl)) fun _ _ _ _ _ _ us hl => match us, hl with | [_, _, _], _ => rfl
  obtain ⟨Djoined⟩ := def_mkH (st := sjoined) (ps := ["tower", "other", "most"]) (c.d.def_ 26 (d := ddjoined) rfl) (He.glo_ok X G (c.d.fact 26 (f := .glo "joined") rfl)) fun _ _ _ _ _ _ us hl => match us, hl with | [_, _, _], _ => rfl
  obtain ⟨Dprimitive⟩ := def_mkH (st := sprimitive) (ps := ["polynomial"]) (c.d.def_ 27 (d := ddprimitive) rfl) (He.glo_ok X G (c.d.fact 27 (f := .glo "primitive") rfl)) fun _ _ _ _ _ _ us hl => match us, hl with | [_], _ => rfl
  obtain ⟨Dcharacteristic⟩ := def_mkH (st := scharacteristic) (ps := ["tower", "vector", "base"]) (c.d.def_ 28 (d := ddcharacteristic) rfl) (He.glo_ok X G (c.d.fact 28 (f := .glo "characteristic") rfl)) fun _ _ _ _ _ _ us hl => match us, hl with | [_, _, _], _ => rfl
  obtain ⟨D_polynomial_root⟩ := def_mkH (st := s_polynomial_root) (ps := ["tower", "terms"]) (c.d.def_ 29 (d := dd_polynomial_root) rfl) (He.glo_ok X G (c.d.fact 29 (f := .glo "_polynomial_root") rfl)) fun _ _ _ _ _ _ us hl => match us, hl with | [_, _], _ => rfl
  obtain ⟨D_least_terms⟩ := def_mkH (st := s_least_terms) (ps := ["tower", "vector", "base"]) (c.d.def_ 30 (d := dd_least_terms) rfl) (He.glo_ok X G (c.d.fact 30 (f := .glo "_least_terms") rfl)) fun _ _ _ _ _ _ us hl => match us, hl with | [_, _, _], _ => rfl
  obtain ⟨D_degree⟩ := def_mkH (st := s_degree) (ps := ["tower", "element", "base"]) (c.d.def_ 31 (d := dd_degree) rfl) (He.glo_ok X G (c.d.fact 31 (f := .glo "_degree") rfl)) fun _ _ _ _ _ _ us hl => match us, hl with | [_, _, _], _ => rfl
  obtain ⟨Dleast_polynomial⟩ := def_mkH (st := sleast_polynomial) (ps := ["tower", "element"]) (c.d.def_ 32 (d := ddleast_polynomial) rfl) (He.glo_ok X G (c.d.fact 32 (f := .glo "least_polynomial") rfl)) fun _ _ _ _ _ _ us hl => match us, hl with | [_, _], _ => rfl
  obtain ⟨Dleast_field⟩ := def_mkH (st := sleast_field) (ps := ["tower", "element"]) (c.d.def_ 33 (d := ddleast_field) rfl) (He.glo_ok X G (c.d.fact 33 (f := .glo "least_field") rfl)) fun _ _ _ _ _ _ us hl => match us, hl with | [_, _], _ => rfl
  obtain ⟨D_rank⟩ := def_mkH (st := s_rank) (ps := ["tower"]) (c.d.def_ 34 (d := dd_rank) rfl) (He.glo_ok X G (c.d.fact 34 (f := .glo "_rank") rfl)) fun _ _ _ _ _ _ us hl => match us, hl with | [_], _ => rfl
  obtain ⟨D_all_in_one_tower⟩ := def_mkH (st := s_all_in_one_tower) (ps := ["pairs", "most"]) (c.d.def_ 35 (d := dd_all_in_one_tower) rfl) (He.glo_ok X G (c.d.fact 35 (f := .glo "_all_in_one_tower") rfl)) fun _ _ _ _ _ _ us hl => match us, hl with | [_, _], _ => rfl
  obtain ⟨Dall_together⟩ := def_mkH (st := sall_together) (ps := ["pairs"]) (c.d.def_ 36 (d := ddall_together) rfl) (He.glo_ok X G (c.d.fact 36 (f := .glo "all_together") rfl)) fun _ _ _ _ _ _ us hl => match us, hl with | [_], _ => rfl
  obtain ⟨Dnumber_in⟩ := def_mkH (st := snumber_in) (ps := ["tower", "element"]) (c.d.def_ 37 (d := ddnumber_in) rfl) (He.glo_ok X G (c.d.fact 37 (f := .glo "number_in") rfl)) fun _ _ _ _ _ _ us hl => match us, hl with | [_, _], _ => rfl
  obtain ⟨D_shortest⟩ := def_mkH (st := s_shortest) (ps := ["element"]) (c.d.def_ 38 (d := dd_shortest) rfl) (He.glo_ok X G (c.d.fact 38 (f := .glo "_shortest") rfl)) fun _ _ _ _ _ _ us hl => match us, hl with | [_], _ => rfl
  obtain ⟨D_alike⟩ := def_mkH (st := s_alike) (ps := ["one", "other"]) (c.d.def_ 39 (d := dd_alike) rfl) (He.glo_ok X G (c.d.fact 39 (f := .glo "_alike") rfl)) fun _ _ _ _ _ _ us hl => match us, hl with | [_, _], _ => rfl
  obtain ⟨Dwhole_element⟩ := def_mkH (st := swhole_element) (ps := ["n"]) (c.d.def_ 40 (d := ddwhole_element) rfl) (He.glo_ok X G (c.d.fact 40 (f := .glo "whole_element") rfl)) fun _ _ _ _ _ _ us hl => match us, hl with | [_], _ => rfl
  obtain ⟨D_cross⟩ := def_mkH (st := s_cross) (ps := ["field", "one", "other"]) (c.d.def_ 41 (d := dd_cross) rfl) (He.glo_ok X G (c.d.fact 41 (f := .glo "_cross") rfl)) fun _ _ _ _ _ _ us hl => match us, hl with | [_, _, _], _ => rfl
  obtain ⟨Dline_shape⟩ := def_mkH (st := sline_shape) (ps := ["field", "one", "other"]) (c.d.def_ 42 (d := ddline_shape) rfl) (He.glo_ok X G (c.d.fact 42 (f := .glo "line_shape") rfl)) fun _ _ _ _ _ _ us hl => match us, hl with | [_, _, _], _ => rfl
  obtain ⟨D_meets_of_lines⟩ := def_mkH (st := s_meets_of_lines) (ps := ["field", "one", "other"]) (c.d.def_ 43 (d := dd_meets_of_lines) rfl) (He.glo_ok X G (c.d.fact 43 (f := .glo "_meets_of_lines") rfl)) fun _ _ _ _ _ _ us hl => match us, hl with | [_, _, _], _ => rfl
  obtain ⟨Dshape_meets⟩ := def_mkH (st := sshape_meets) (ps := ["field", "one", "other"]) (c.d.def_ 44 (d := ddshape_meets) rfl) (He.glo_ok X G (c.d.fact 44 (f := .glo "shape_meets") rfl)) fun _ _ _ _ _ _ us hl => match us, hl with | [_, _, _], _ => rfl
  obtain ⟨D_points_in⟩ := def_mkH (st := s_points_in) (ps := ["field", "points"]) (c.d.def_ 45 (d := dd_points_in) rfl) (He.glo_ok X G (c.d.fact 45 (f := .glo "_points_in") rfl)) fun _ _ _ _ _ _ us hl => match us, hl with | [_, _], _ => rfl
  obtain ⟨D_shape⟩ := def_mkH (st := s_shape) (ps := ["field", "word", "points"]) (c.d.def_ 46 (d := dd_shape) rfl) (He.glo_ok X G (c.d.fact 46 (f := .glo "_shape") rfl)) fun _ _ _ _ _ _ us hl => match us, hl with | [_, _, _], _ => rfl
  obtain ⟨D_two_shapes⟩ := def_mkH (st := s_two_shapes) (ps := ["field", "one", "other"]) (c.d.def_ 47 (d := dd_two_shapes) rfl) (He.glo_ok X G (c.d.fact 47 (f := .glo "_two_shapes") rfl)) fun _ _ _ _ _ _ us hl => match us, hl with | [_, _, _], _ => rfl
  obtain ⟨Dmeets⟩ := def_mkH (st := smeets) (ps := ["one", "other"]) (c.d.def_ 48 (d := ddmeets) rfl) (He.glo_ok X G (c.d.fact 48 (f := .glo "meets") rfl)) fun _ _ _ _ _ _ us hl => match us, hl with | [_, _], _ => rfl
  obtain ⟨D_law_gcd⟩ := def_mkH (st := s_law_gcd) (ps := ["a", "b"]) (c.d.def_ 49 (d := dd_law_gcd) rfl) (He.glo_ok X G (c.d.fact 49 (f := .glo "_law_gcd") rfl)) fun _ _ _ _ _ _ us hl => match us, hl with | [_, _], _ => rfl
  obtain ⟨D_law_bits⟩ := def_mkH (st := s_law_bits) (ps := ["mask", "radicands"]) (c.d.def_ 50 (d := dd_law_bits) rfl) (He.glo_ok X G (c.d.fact 50 (f := .glo "_law_bits") rfl)) fun _ _ _ _ _ _ us hl => match us, hl with | [_, _], _ => rfl
  obtain ⟨D_law_times⟩ := def_mkH (st := s_law_times) (ps := ["one", "other", "radicands"]) (c.d.def_ 51 (d := dd_law_times) rfl) (He.glo_ok X G (c.d.fact 51 (f := .glo "_law_times") rfl)) fun _ _ _ _ _ _ us hl => match us, hl with | [_, _, _], _ => rfl
  obtain ⟨D_law_odd⟩ := def_mkH (st := s_law_odd) (ps := ["mask"]) (c.d.def_ 52 (d := dd_law_odd) rfl) (He.glo_ok X G (c.d.fact 52 (f := .glo "_law_odd") rfl)) fun _ _ _ _ _ _ us hl => match us, hl with | [_], _ => rfl
  obtain ⟨D_law_turned⟩ := def_mkH (st := s_law_turned) (ps := ["vector", "mask"]) (c.d.def_ 53 (d := dd_law_turned) rfl) (He.glo_ok X G (c.d.fact 53 (f := .glo "_law_turned") rfl)) fun _ _ _ _ _ _ us hl => match us, hl with | [_, _], _ => rfl
  obtain ⟨D_law_conjugates⟩ := def_mkH (st := s_law_conjugates) (ps := ["vector"]) (c.d.def_ 54 (d := dd_law_conjugates) rfl) (He.glo_ok X G (c.d.fact 54 (f := .glo "_law_conjugates") rfl)) fun _ _ _ _ _ _ us hl => match us, hl with | [_], _ => rfl
  obtain ⟨D_law_sign⟩ := def_mkH (st := s_law_sign) (ps := ["vector", "radicands"]) (c.d.def_ 55 (d := dd_law_sign) rfl) (He.glo_ok X G (c.d.fact 55 (f := .glo "_law_sign") rfl)) fun _ _ _ _ _ _ us hl => match us, hl with | [_, _], _ => rfl
  obtain ⟨D_law_less⟩ := def_mkH (st := s_law_less) (ps := ["one", "other", "radicands"]) (c.d.def_ 56 (d := dd_law_less) rfl) (He.glo_ok X G (c.d.fact 56 (f := .glo "_law_less") rfl)) fun _ _ _ _ _ _ us hl => match us, hl with | [_, _, _], _ => rfl
  obtain ⟨D_law_primitive⟩ := def_mkH (st := s_law_primitive) (ps := ["row"]) (c.d.def_ 57 (d := dd_law_primitive) rfl) (He.glo_ok X G (c.d.fact 57 (f := .glo "_law_primitive") rfl)) fun _ _ _ _ _ _ us hl => match us, hl with | [_], _ => rfl
  obtain ⟨D_law_least⟩ := def_mkH (st := s_law_least) (ps := ["vector", "den", "radicands"]) (c.d.def_ 58 (d := dd_law_least) rfl) (He.glo_ok X G (c.d.fact 58 (f := .glo "_law_least") rfl)) fun _ _ _ _ _ _ us hl => match us, hl with | [_, _, _], _ => rfl
  obtain ⟨D_law_place⟩ := def_mkH (st := s_law_place) (ps := ["vector", "radicands"]) (c.d.def_ 59 (d := dd_law_place) rfl) (He.glo_ok X G (c.d.fact 59 (f := .glo "_law_place") rfl)) fun _ _ _ _ _ _ us hl => match us, hl with | [_, _], _ => rfl
  obtain ⟨D_law_is⟩ := def_mkH (st := s_law_is) (ps := ["number", "vector", "den", "radicands"]) (c.d.def_ 60 (d := dd_law_is) rfl) (He.glo_ok X G (c.d.fact 60 (f := .glo "_law_is") rfl)) fun _ _ _ _ _ _ us hl => match us, hl with | [_, _, _, _], _ => rfl
  obtain ⟨D_law_line⟩ := def_mkH (st := s_law_line) (ps := ["one", "other"]) (c.d.def_ 61 (d := dd_law_line) rfl) (He.glo_ok X G (c.d.fact 61 (f := .glo "_law_line") rfl)) fun _ _ _ _ _ _ us hl => match us, hl with | [_, _], _ => rfl
  obtain ⟨D_law_crossing⟩ := def_mkH (st := s_law_crossing) (ps := ["one", "other"]) (c.d.def_ 62 (d := dd_law_crossing) rfl) (He.glo_ok X G (c.d.fact 62 (f := .glo "_law_crossing") rfl)) fun _ _ _ _ _ _ us hl => match us, hl with | [_, _], _ => rfl
  obtain ⟨D_law_made_point⟩ := def_mkH (st := s_law_made_point) (ps := ["point"]) (c.d.def_ 63 (d := dd_law_made_point) rfl) (He.glo_ok X G (c.d.fact 63 (f := .glo "_law_made_point") rfl)) fun _ _ _ _ _ _ us hl => match us, hl with | [_], _ => rfl
  obtain ⟨D_law_are⟩ := def_mkH (st := s_law_are) (ps := ["told", "due"]) (c.d.def_ 64 (d := dd_law_are) rfl) (He.glo_ok X G (c.d.fact 64 (f := .glo "_law_are") rfl)) fun _ _ _ _ _ _ us hl => match us, hl with | [_, _], _ => rfl
  obtain ⟨D_law_point⟩ := def_mkH (st := s_law_point) (ps := ["state", "most"]) (c.d.def_ 65 (d := dd_law_point) rfl) (He.glo_ok X G (c.d.fact 65 (f := .glo "_law_point") rfl)) fun _ _ _ _ _ _ us hl => match us, hl with | [_, _], _ => rfl
  obtain ⟨D_law_two_points⟩ := def_mkH (st := s_law_two_points) (ps := ["state", "most"]) (c.d.def_ 66 (d := dd_law_two_points) rfl) (He.glo_ok X G (c.d.fact 66 (f := .glo "_law_two_points") rfl)) fun _ _ _ _ _ _ us hl => match us, hl with | [_, _], _ => rfl
  obtain ⟨DNumber_polynomial⟩ := met_mkH (C := He.ga K "Number") (st := sNumber_polynomial) (ps := ["self"]) (c.d.def_ 67 (d := ddNumber_polynomial) rfl) (He.meth_ok (c.d.fact 77 (f := .meth "Number" "polynomial") rfl)) fun _ _ _ _ _ _ us hl => match us, hl with | [_], _ => rfl
  obtain ⟨DNumber_place⟩ := met_mkH (C := He.ga K "Number") (st := sNumber_place) (ps := ["self"]) (c.d.def_ 68 (d := ddNumber_place) rfl) (He.meth_ok (c.d.fact 78 (f := .meth "Number" "place") rfl)) fun _ _ _ _ _ _ us hl => match us, hl with | [_], _ => rfl
  obtain ⟨DField_holding⟩ := met_mkH (C := He.ga K "Field") (st := sField_holding) (ps := ["self", "numbers"]) (c.d.def_ 69 (d := ddField_holding) rfl) (He.meth_ok (c.d.fact 79 (f := .meth "Field" "holding") rfl)) fun _ _ _ _ _ _ us hl => match us, hl with | [_, _], _ => rfl
  obtain ⟨DField_number⟩ := met_mkH (C := He.ga K "Field") (st := sField_number) (ps := ["self", "element"]) (c.d.def_ 70 (d := ddField_number) rfl) (He.meth_ok (c.d.fact 80 (f := .meth "Field" "number") rfl)) fun _ _ _ _ _ _ us hl => match us, hl with | [_, _], _ => rfl
  obtain ⟨DField_minus⟩ := met_mkH (C := He.ga K "Field") (st := sField_minus) (ps := ["self", "one", "other"]) (c.d.def_ 71 (d := ddField_minus) rfl) (He.meth_ok (c.d.fact 81 (f := .meth "Field" "minus") rfl)) fun _ _ _ _ _ _ us hl => match us, hl with | [_, _, _], _ => rfl
  obtain ⟨DField_product⟩ := met_mkH (C := He.ga K "Field") (st := sField_product) (ps := ["self", "one", "other"]) (c.d.def_ 72 (d := ddField_product) rfl) (He.meth_ok (c.d.fact 82 (f := .meth "Field" "product") rfl)) fun _ _ _ _ _ _ us hl => match us, hl with | [_, _, _], _ => rfl
  obtain ⟨DField_inverted⟩ := met_mkH (C := He.ga K "Field") (st := sField_inverted) (ps := ["self", "element"]) (c.d.def_ 73 (d := ddField_inverted) rfl) (He.meth_ok (c.d.fact 83 (f := .meth "Field" "inverted") rfl)) fun _ _ _ _ _ _ us hl => match us, hl with | [_, _], _ => rfl
  obtain ⟨fdNumber, INumber⟩ := c.d.def_ 74 (d := ddNumber___init__) rfl
  have INumber : FunD K "__init__" "Number.__init__" (defArgs sNumber___init__) (defBody sNumber___init__) (defScope sNumber___init__) [.int 1] [] (He.ma K (He.ga K "Number") "__init__") fdNumber := INumber
  obtain ⟨dsNumber, VNumber, BdNumber⟩ := INumber.binds1 (ps := ["self", "n", "d"]) 2 0 (by simp) rfl (fun T kV doc pm an cdv ct us its hu hi => match us, its, hu, hi with | [_, _], [_], _, _ => ⟨_, rfl, rfl⟩)
  obtain ⟨dzNumber, VzNumber, BNumber⟩ := INumber.binds1 (ps := ["self", "n", "d"]) 3 1 (by simp) rfl (fun T kV doc pm an cdv ct us its hu hi => match us, its, hu, hi with | [_, _, _], [_], _, _ => ⟨_, rfl, rfl⟩)
  cases VzNumber
  have MNumber := He.mkr_ok (c.d.fact 69 (f := .mkr "Number") rfl)
  have HNumber := He.glo_ok X G (c.d.fact 67 (f := .glo "Number") rfl)
  obtain ⟨fdField, IField⟩ := c.d.def_ 75 (d := ddField___init__) rfl
  have IField : Fun K "__init__" "Field.__init__" sField___init__ (He.ma K (He.ga K "Field") "__init__") fdField := fun_ofD (F := fun _ => True) IField
  have BField := IField.binds (ps := ["self"]) fun _ _ _ _ _ _ us hl => match us, hl with | [_], _ => rfl
  have MField := He.mkr_ok (c.d.fact 74 (f := .mkr "Field") rfl)
  have HField := He.glo_ok X G (c.d.fact 72 (f := .glo "Field") rfl)
  have TNumber : ClsC K (He.ga K "Number") ["tower", "element"] := ⟨He.cls_ok (c.d.fact 68 (f := .cls "Number") rfl), fun f hf => by
    simp only [List.mem_cons, List.not_mem_nil, or_false] at hf
    rcases hf with rfl | rfl
    · exact He.noat_ok (c.d.fact 70 (f := .noat "Number" "tower") rfl)
    · exact He.noat_ok (c.d.fact 71 (f := .noat "Number" "element") rfl)⟩
  have TField : ClsC K (He.ga K "Field") ["tower", "known_roots"] := ⟨He.cls_ok (c.d.fact 73 (f := .cls "Field") rfl), fun f hf => by
    simp only [List.mem_cons, List.not_mem_nil, or_false] at hf
    rcases hf with rfl | rfl
    · exact He.noat_ok (c.d.fact 75 (f := .noat "Field" "tower") rfl)
    · exact He.noat_ok (c.d.fact 76 (f := .noat "Field" "known_roots") rfl)⟩
  have M : Names mg := { ValueError := He.free_ok X G (c.d.fact 84 (f := .free "ValueError") rfl), tuple := He.free_ok X G (c.d.fact 85 (f := .free "tuple") rfl), any := He.free_ok X G (c.d.fact 86 (f := .free "any") rfl), reversed := He.free_ok X G (c.d.fact 87 (f := .free "reversed") rfl), enumerate := He.free_ok X G (c.d.fact 88 (f := .free "enumerate") rfl), zip := He.free_ok X G (c.d.fact 89 (f := .free "zip") rfl), range := He.free_ok X G (c.d.fact 90 (f := .free "range") rfl), len := He.free_ok X G (c.d.fact 91 (f := .free "len") rfl), max := He.free_ok X G (c.d.fact 92 (f := .free "max") rfl), abs := He.free_ok X G (c.d.fact 93 (f := .free "abs") rfl), NotImplemented := He.free_ok X G (c.d.fact 94 (f := .free "NotImplemented") rfl), int := He.free_ok X G (c.d.fact 95 (f := .free "int") rfl), isinstance := He.free_ok X G (c.d.fact 96 (f := .free "isinstance") rfl), min := He.free_ok X G (c.d.fact 97 (f := .free "min") rfl), sum := He.free_ok X G (c.d.fact 98 (f := .free "sum") rfl), bool := He.free_ok X G (c.d.fact 99 (f := .free "bool") rfl), gcd := PySem.W.mg_of X G (He.eqO_ok (c.x 7 (e := (fun K => He.eqO (PySem.W.nsIn K mainGlobals "gcd") (some (some (.builtin "math.gcd"))))) rfl)), isqrt := PySem.W.mg_of X G (He.eqO_ok (c.x 8 (e := (fun K => He.eqO (PySem.W.nsIn K mainGlobals "isqrt") (some (some (.builtin "math.isqrt"))))) rfl)), FIRST_BITS := He.int_ok X G (c.d.fact 100 (f := .int "FIRST_BITS" (64)) rfl), MOST_GENERATORS := He.int_ok X G (c.d.fact 101 (f := .int "MOST_GENERATORS" (4)) rfl) }
  have nx : ∀ (i : Nat) (e : PySem.W.Frag → Bool), (numX "Number")[i]? = some e → e K = true := fun i e h => c.x i (e := e) (by
    have hi := (List.getElem?_eq_some_iff.mp h).1
    unfold exH
    rw [List.getElem?_append_left hi]; exact h)
  obtain ⟨isN, sfN⟩ := isT_of (He.cls_ok (c.d.fact 68 (f := .cls "Number") rfl)) nx
  have Z : CtxN P w K mg S := ⟨rfl, rfl, rfl, ⟨He.noat_ok (c.d.fact 70 (f := .noat "Number" "tower") rfl), He.noat_ok (c.d.fact 71 (f := .noat "Number" "element") rfl), He.glo_ok X G (c.d.fact 67 (f := .glo "Number") rfl), isN, sfN⟩, rfl⟩
  have DZERO : GTup K mg "ZERO" (He.ga K "ZERO") zeroD := gtup_ok (He.glo_ok X G (c.d.fact 102 (f := .glo "ZERO") rfl)) (c.x 9 (e := (fun K => gtupB "ZERO" zeroD K)) rfl)
  refine ⟨fdlaw, fun s v => ?_, fun base _ _ => ?_⟩
  · have b := FunD.bindsA (ps := ["script"]) Glaw fun _ _ _ _ _ _ us hl => match us, hl with | [_], _ => rfl
    exact b s [v] rfl
  · exact chain (S := S)  Flaw M Z TNumber TField DZERO D_law_state D_law_take Dplus Dminus Dtimes Dpadded Dmultiplied Dlowest Dinverse Delement_sum Delement_difference Delement_product D_shares D_chosen Dtrimmed Dbound D_unit D_root D_scaled D_bases D_count_below_first Dplace_of Dwidened Dimage Dimage_of_element Djoined Dprimitive Dcharacteristic D_polynomial_root D_least_terms D_degree Dleast_polynomial Dleast_field D_rank D_all_in_one_tower Dall_together Dnumber_in DNumber_polynomial DNumber_place D_shortest DField_holding DField_number D_alike DField_minus DField_product DField_inverted Dwhole_element D_cross Dline_shape D_meets_of_lines Dshape_meets D_points_in D_shape D_two_shapes Dmeets D_law_gcd D_law_bits D_law_times D_law_odd D_law_turned D_law_conjugates D_law_sign D_law_less D_law_primitive D_law_least D_law_place D_law_is D_law_line D_law_crossing D_law_made_point D_law_are D_law_point D_law_two_points INumber BNumber BdNumber VNumber MNumber HNumber IField BField MField HField
end KW
open PySem PySem.W PySem.Calls PyProof.Rows
theorem PySem.Challenge.cw_compasswork_k13_meets_of_lines_holds : PySem.Challenge.rw_compasswork_k13_meets_of_lines.Holds := by
  w_on; o_law
  refine HandSHeadRun.head_imp (r := OpenLaw.row PySem.Challenge.rw_compasswork_k13_meets_of_lines) (q := view (OpenLaw.row PySem.Challenge.rw_compasswork_k13_meets_of_lines).prog [0, 120]) (H := KW.hkH) (ob := KW.obH) (M := 20000) (loose := KW.nmH) (d := HandSHeadRun.topDef (OpenLaw.row PySem.Challenge.rw_compasswork_k13_meets_of_lines).prog 120) (kwd := []) KW.obH_eq
    KW.runH (by kernel_rfl) (by kernel_rfl) (by kernel_rfl) (by rfl) (by first | assumption | decide +kernel) (by decide +kernel) ⟨rfl, rfl, rfl, rfl, rfl, by decide +kernel⟩ ?hw ?hc
  case hw => w_witness2
  case hc =>
    refine L2.walk_ofE (l := PySem.Challenge.rw_compasswork_k13_meets_of_lines) (n := 63) (k := 34) (x := "script") (CX := L2.CX0) rfl (by decide) (by kernel_rfl) ⟨rfl, by decide, by decide⟩ ?F (fun _ _ _ _ z => z)
    intro w mg fa h Y G hmg0
    obtain ⟨K, KX, c⟩ := Y
    have hmg : mg ("law" : PySem.Str) = some (.ref fa) := by
      have e : (HandSHeadRun.topDef (OpenLaw.row PySem.Challenge.rw_compasswork_k13_meets_of_lines).prog 120).name = ("law" : PySem.Str) := by kernel_rfl
      rw [← e]
      exact hmg0
    obtain ⟨fd, hb, hF⟩ := KW.factsH  (P := (PySem.Challenge.rw_compasswork_k13_meets_of_lines).prog) (w := w) KX G hmg c
    exact ⟨K, fd, DN.splaw K, KX, hb, fun H a ns hl _ hS => ⟨a, ns, rfl, hS, hl, fun _ => rfl⟩, hF⟩

