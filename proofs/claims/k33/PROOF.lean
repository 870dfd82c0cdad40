import PyProof.Rows.All
import Wide.All
import OpenK.AllK
import Wide.FinOn
import HandS.ForMost
import HandS.IsInst
import HandS.Wide
import HandS.More
import PySem.Challenge.RW_burnish_k33_decide_comparisons
set_option Elab.async false
set_option linter.all false
set_option maxRecDepth 100000
set_option maxHeartbeats 4000000
/-! A layer of values over the hand layer: data are trees, the heap is hidden. -/
namespace VL
open PySem L2

/-! ### data in a heap -/
def keyD : Key → PyData
  | .inl i => .int i
  | .inr x => .str x
mutual
inductive Rp (K : PySem.W.Frag) (H : Hp) : V → PyData → Prop
  | non : Rp K H .non .none
  | bl (b : Bool) : Rp K H (.bl b) (.bool b)
  | int (i : Int) : Rp K H (.int i) (.int i)
  | str (x : Str) : Rp K H (.str x) (.str x)
  | lst {a : Addr} {xs : List V} {ds : List PyData} : H a = some (.lst xs) → RpA K H xs ds → Rp K H (.ref a) (.list ds)
  | tup {a : Addr} {xs : List V} {ds : List PyData} : SqT K H a xs → RpA K H xs ds → Rp K H (.ref a) (.tuple ds)
  | dic {a : Addr} {kvs : List (Key × V)} {es : List (PyData × PyData)} : H a = some (.dK kvs) → RpD K H kvs es → Rp K H (.ref a) (.dict es)
inductive RpA (K : PySem.W.Frag) (H : Hp) : List V → List PyData → Prop
  | nil : RpA K H [] []
  | cons {v : V} {vs : List V} {d : PyData} {ds : List PyData} : Rp K H v d → RpA K H vs ds → RpA K H (v :: vs) (d :: ds)
inductive RpD (K : PySem.W.Frag) (H : Hp) : List (Key × V) → List (PyData × PyData) → Prop
  | nil : RpD K H [] []
  | cons {k : Key} {v : V} {kvs : List (Key × V)} {d : PyData} {es : List (PyData × PyData)} : Rp K H v d → RpD K H kvs es → RpD K H ((k, v) :: kvs) ((keyD k, d) :: es)
end
section
variable {K : PySem.W.Frag} {H H' : Hp}
theorem same_t {a : Addr} {xs : List V} (e : Same H H') (h : SqT K H a xs) : SqT K H' a xs := by
  rcases h with (h | ⟨o, h⟩) | h
  · exact .inl (.inl (e _ _ h))
  · exact .inl (.inr ⟨o, e _ _ h⟩)
  · exact .inr h
mutual
theorem Rp.mono (e : Same H H') : ∀ {v : V} {d : PyData}, Rp K H v d → Rp K H' v d
  | _, _, .non => .non
  | _, _, .bl b => .bl b
  | _, _, .int i => .int i
  | _, _, .str x => .str x
  | _, _, .lst h r => .lst (e _ _ h) (RpA.mono e r)
  | _, _, .tup h r => .tup (same_t e h) (RpA.mono e r)
  | _, _, .dic h r => .dic (e _ _ h) (RpD.mono e r)
theorem RpA.mono (e : Same H H') : ∀ {vs : List V} {ds : List PyData}, RpA K H vs ds → RpA K H' vs ds
  | _, _, .nil => .nil
  | _, _, .cons h r => .cons (Rp.mono e h) (RpA.mono e r)
theorem RpD.mono (e : Same H H') : ∀ {vs : List (Key × V)} {ds : List (PyData × PyData)}, RpD K H vs ds → RpD K H' vs ds
  | _, _, .nil => .nil
  | _, _, .cons h r => .cons (Rp.mono e h) (RpD.mono e r)
end
mutual
theorem Rp.dp : ∀ {v : V} {d : PyData}, Rp K H v d → d.canLay0 = true → Dp K H v d
  | _, _, .non, _ => .non
  | _, _, .bl b, _ => .bl b
  | _, _, .int i, _ => .int i
  | _, _, .str x, _ => .str x
  | _, _, .lst h r, c => .lst (SqL.of h) (RpA.dp r (by simpa [PyData.canLay0] using c))
  | _, _, .tup h r, c => .tup h (RpA.dp r (by simpa [PyData.canLay0] using c))
  | _, _, .dic h r, c => by simp [PyData.canLay0] at c
theorem RpA.dp : ∀ {vs : List V} {ds : List PyData}, RpA K H vs ds → PyData.canLayAll0 ds = true → DpAll K H vs ds
  | _, _, .nil, _ => .nil
  | _, _, .cons h r, c => by
    simp only [PyData.canLayAll0, Bool.and_eq_true] at c
    exact .cons (Rp.dp h c.1) (RpA.dp r c.2)
end
theorem RpA.length : ∀ {vs : List V} {ds : List PyData}, RpA K H vs ds → vs.length = ds.length
  | _, _, .nil => rfl
  | _, _, .cons _ r => by rw [List.length_cons, List.length_cons, RpA.length r]
theorem RpA.get : ∀ {vs : List V} {ds : List PyData} {i : Nat} {d : PyData}, RpA K H vs ds → ds[i]? = some d → ∃ v, vs[i]? = some v ∧ Rp K H v d
  | _, _, _, _, .nil, e => by simp at e
  | _, _, 0, _, .cons h _, e => by simp at e; subst e; exact ⟨_, rfl, h⟩
  | _, _, i + 1, _, .cons _ r, e => by
    obtain ⟨v, h1, h2⟩ := RpA.get (i := i) r (by simpa using e)
    exact ⟨v, by simpa using h1, h2⟩
theorem RpA.get' : ∀ {vs : List V} {ds : List PyData} {i : Nat} {v : V}, RpA K H vs ds → vs[i]? = some v → ∃ d, ds[i]? = some d ∧ Rp K H v d
  | _, _, _, _, .nil, e => by simp at e
  | _, _, 0, _, .cons h _, e => by simp at e; subst e; exact ⟨_, rfl, h⟩
  | _, _, i + 1, _, .cons _ r, e => by
    obtain ⟨v, h1, h2⟩ := RpA.get' (i := i) r (by simpa using e)
    exact ⟨v, by simpa using h1, h2⟩
theorem RpA.append : ∀ {vs us : List V} {ds es : List PyData}, RpA K H vs ds → RpA K H us es → RpA K H (vs ++ us) (ds ++ es)
  | _, _, _, _, .nil, r => r
  | _, _, _, _, .cons h r, s => .cons h (RpA.append r s)
theorem RpA.snoc {vs : List V} {ds : List PyData} {v : V} {d : PyData} (r : RpA K H vs ds) (h : Rp K H v d) : RpA K H (vs ++ [v]) (ds ++ [d]) := r.append (.cons h .nil)
theorem RpA.set {v : V} {d : PyData} (h : Rp K H v d) : ∀ {vs : List V} {ds : List PyData} (i : Nat), RpA K H vs ds → RpA K H (vs.set i v) (ds.set i d)
  | _, _, _, .nil => .nil
  | _, _, 0, .cons _ r => .cons h r
  | _, _, i + 1, .cons g r => .cons g (RpA.set h i r)
theorem RpA.take : ∀ {vs : List V} {ds : List PyData} (n : Nat), RpA K H vs ds → RpA K H (vs.take n) (ds.take n)
  | _, _, 0, _ => .nil
  | _, _, _ + 1, .nil => .nil
  | _, _, n + 1, .cons h r => .cons h (RpA.take n r)
theorem RpA.drop : ∀ {vs : List V} {ds : List PyData} (n : Nat), RpA K H vs ds → RpA K H (vs.drop n) (ds.drop n)
  | _, _, 0, r => r
  | _, _, _ + 1, .nil => .nil
  | _, _, n + 1, .cons _ r => RpA.drop n r
theorem RpA.ints : ∀ {vs : List V} {ns : List Int}, RpA K H vs (ns.map PyData.int) → vs = ns.map V.int
  | _, [], .nil => rfl
  | _, _ :: _, .cons (.int _) r => by rw [List.map_cons, RpA.ints r]
end

/-! ### the row of numbers that a law draws from -/
def DrawAt (H0 H : Hp) (p : Addr) : Prop := ∃ (c : Addr) (i v s : Int) (cells : List Int), H p = some (.lst [.ref c, .int i, .int v, .int s]) ∧ H0 c = some (.lst (cells.map V.int)) ∧ H0 p = none ∧
  (∀ x ∈ cells, 0 ≤ x) ∧ -1 ≤ i ∧ 0 ≤ v ∧ 0 ≤ s ∧ s < 2147483647

/-! ### slots -/
inductive R where
  | d (x : PyData) | own (a : Addr) (xs : List PyData) | drw | raw (v : V) | scr (ns : List Int)
inductive RX where
  | d (x : PyData) | own (xs : List PyData)
abbrev Dl := List (Option R)
structure Ctx where
  K : PySem.W.Frag
  ex : Option Addr
  He : Hp
  Hf : Hp
structure Wf (C : Ctx) (H0 H : Hp) : Prop where
  sub : Same H0 H
  kp : ∀ b o, C.ex ≠ some b → C.He b = some o → H b = some o
  fz : Same C.Hf H0
  nw : ∀ b o, H0 b = some o → C.Hf b = some o ∨ C.He b = none
  dr : ∀ p, C.ex = some p → DrawAt H0 H p
def RR (C : Ctx) (H0 H : Hp) (v : V) : R → Prop
  | .d x => Rp C.K H0 v x
  | .own a xs => v = .ref a ∧ H0 a = none ∧ C.He a = none ∧ C.ex ≠ some a ∧ ∃ vs, H a = some (.lst vs) ∧ RpA C.K H0 vs xs
  | .drw => ∃ p, C.ex = some p ∧ v = .ref p
  | .raw u => v = u
  | .scr ns => ∃ a, v = .ref a ∧ SqL C.K H0 a (ns.map V.int)
structure St (C : Ctx) (H0 H : Hp) (σ : L2.St) (δ : Dl) : Prop extends Wf C H0 H where
  len : σ.length = δ.length
  sl : ∀ (i : Nat) (r : R), δ[i]? = some (some r) → ∃ v, σ[i]? = some (some v) ∧ RR C H0 H v r
  sep : ∀ (i j : Nat) (a b : Addr) (xs ys : List PyData), i ≠ j → δ[i]? = some (some (.own a xs)) → δ[j]? = some (some (.own b ys)) → a ≠ b
/-- an expression's way -/
structure Go (C : Ctx) (H0 H H0' H' : Hp) : Prop where
  wf : Wf C H0' H'
  fz : Same H0 H0'
  kp : ∀ b o, C.ex ≠ some b → H b = some o → H' b = some o
  nw : ∀ b o, H0' b = some o → H0 b = some o ∨ H b = none
section
variable {C : Ctx} {H0 H H0' H' H0'' H'' : Hp} {σ : L2.St} {δ : Dl} {v : V} {x : PyData}
theorem Go.refl (w : Wf C H0 H) : Go C H0 H H0 H := ⟨w, Same.refl _, fun _ _ _ e => e, fun _ _ e => .inl e⟩
theorem Go.trans (a : Go C H0 H H0' H') (b : Go C H0' H' H0'' H'') : Go C H0 H H0'' H'' := by
  refine ⟨b.wf, a.fz.trans b.fz, fun c o n e => b.kp c o n (a.kp c o n e), fun c o e => ?_⟩
  rcases b.nw c o e with h | h
  · exact a.nw c o h
  · cases q : H c with
    | none => exact .inr rfl
    | some u =>
      by_cases n : C.ex = some c
      · obtain ⟨_, _, _, _, _, _, _, z, _⟩ := b.wf.dr c n
        rw [e] at z; cases z
      · have := a.kp c u n q
        rw [h] at this; cases this
theorem RR.go {r : R} (h : RR C H0 H v r) (g : Go C H0 H H0' H') : RR C H0' H' v r := by
  cases r with
  | d x => exact Rp.mono g.fz h
  | own a xs =>
    obtain ⟨e, h1, h2, h3, vs, h4, h5⟩ := h
    refine ⟨e, ?_, h2, h3, vs, g.kp a _ h3 h4, h5.mono g.fz⟩
    cases q : H0' a with
    | none => rfl
    | some o =>
      rcases g.nw a o q with z | z
      · rw [h1] at z; cases z
      · rw [h4] at z; cases z
  | drw => exact h
  | raw u => exact h
  | scr ns => obtain ⟨a, e, q⟩ := h; exact ⟨a, e, g.fz.seq q⟩
theorem St.go (s : St C H0 H σ δ) (g : Go C H0 H H0' H') : St C H0' H' σ δ where
  toWf := g.wf
  len := s.len
  sl := fun i r e => let ⟨v, e1, h⟩ := s.sl i r e; ⟨v, e1, h.go g⟩
  sep := s.sep
theorem St.set_d (s : St C H0 H σ δ) (i : Nat) (h : Rp C.K H0 v x) : St C H0 H (σ.set i (some v)) (δ.set i (some (.d x))) where
  toWf := s.toWf
  len := by rw [List.length_set, List.length_set, s.len]
  sl := fun j r e => by
    by_cases q : i = j
    · subst q
      rw [List.getElem?_set_self'] at e
      cases hd : δ[i]? with
      | none => rw [hd] at e; simp at e
      | some z =>
        rw [hd] at e
        simp at e
        subst e
        have : i < σ.length := by rw [s.len]; exact (List.getElem?_eq_some_iff.mp hd).1
        exact ⟨v, by rw [List.getElem?_set_self this], h⟩
    · rw [List.getElem?_set_ne q] at e
      obtain ⟨u, e1, h1⟩ := s.sl j r e
      exact ⟨u, by rw [List.getElem?_set_ne q]; exact e1, h1⟩
  sep := fun j k a b xs ys n e1 e2 => by
    have f : ∀ {j : Nat} {a : Addr} {xs : List PyData}, (δ.set i (some (R.d x)))[j]? = some (some (R.own a xs)) → δ[j]? = some (some (R.own a xs)) := fun {j a xs} e => by
      by_cases q : i = j
      · subst q
        rw [List.getElem?_set_self'] at e
        cases hd : δ[i]? with
        | none => rw [hd] at e; simp at e
        | some z => rw [hd] at e; simp at e
      · rw [List.getElem?_set_ne q] at e; exact e
    exact s.sep j k a b xs ys n (f e1) (f e2)
theorem St.none (s : St C H0 H σ δ) (i : Nat) : St C H0 H (σ.set i none) (δ.set i none) where
  toWf := s.toWf
  len := by rw [List.length_set, List.length_set, s.len]
  sl := fun j r e => by
    by_cases q : i = j
    · subst q
      rw [List.getElem?_set_self'] at e
      cases hd : δ[i]? with
      | none => rw [hd] at e; simp at e
      | some z => rw [hd] at e; simp at e
    · rw [List.getElem?_set_ne q] at e
      obtain ⟨u, e1, h1⟩ := s.sl j r e
      exact ⟨u, by rw [List.getElem?_set_ne q]; exact e1, h1⟩
  sep := fun j k a b xs ys n e1 e2 => by
    have f : ∀ {j : Nat} {a : Addr} {xs : List PyData}, (δ.set i (Option.none))[j]? = some (some (R.own a xs)) → δ[j]? = some (some (R.own a xs)) := fun {j a xs} e => by
      by_cases q : i = j
      · subst q
        rw [List.getElem?_set_self'] at e
        cases hd : δ[i]? with
        | none => rw [hd] at e; simp at e
        | some z => rw [hd] at e; simp at e
      · rw [List.getElem?_set_ne q] at e; exact e
    exact s.sep j k a b xs ys n (f e1) (f e2)
/-- a new owned list is given to a slot -/
theorem St.set_own {a : Addr} {vs : List V} {xs : List PyData} (s : St C H0 H σ δ) (i : Nat) (hf : ∀ (j : Nat) (b : Addr) (ys : List PyData), δ[j]? = some (some (R.own b ys)) → b ≠ a) (h1 : H0 a = Option.none) (h2 : C.He a = Option.none) (h3 : C.ex ≠ some a) (h4 : H a = some (.lst vs)) (h5 : RpA C.K H0 vs xs) :
    St C H0 H (σ.set i (some (.ref a))) (δ.set i (some (.own a xs))) where
  toWf := s.toWf
  len := by rw [List.length_set, List.length_set, s.len]
  sl := fun j r e => by
    by_cases q : i = j
    · subst q
      rw [List.getElem?_set_self'] at e
      cases hd : δ[i]? with
      | none => rw [hd] at e; simp at e
      | some z =>
        rw [hd] at e
        simp at e
        subst e
        have : i < σ.length := by rw [s.len]; exact (List.getElem?_eq_some_iff.mp hd).1
        exact ⟨.ref a, by rw [List.getElem?_set_self this], rfl, h1, h2, h3, vs, h4, h5⟩
    · rw [List.getElem?_set_ne q] at e
      obtain ⟨u, e1, h1⟩ := s.sl j r e
      exact ⟨u, by rw [List.getElem?_set_ne q]; exact e1, h1⟩
  sep := fun j k b c ys zs n e1 e2 => by
    have f : ∀ {j : Nat} {b : Addr} {ys : List PyData}, (δ.set i (some (R.own a xs)))[j]? = some (some (R.own b ys)) → (i = j ∧ b = a) ∨ (i ≠ j ∧ δ[j]? = some (some (R.own b ys))) := fun {j b ys} e => by
      by_cases q : i = j
      · subst q
        rw [List.getElem?_set_self'] at e
        cases hd : δ[i]? with
        | none => rw [hd] at e; simp at e
        | some z => rw [hd] at e; simp at e; exact .inl ⟨rfl, e.1.symm⟩
      · rw [List.getElem?_set_ne q] at e; exact .inr ⟨q, e⟩
    rcases f e1 with ⟨q1, z1⟩ | ⟨q1, z1⟩ <;> rcases f e2 with ⟨q2, z2⟩ | ⟨q2, z2⟩
    · exact absurd (q1.symm.trans q2) n
    · rw [z1]; exact (hf k c zs z2).symm
    · rw [z2]; exact hf j b ys z1
    · exact s.sep j k b c ys zs n z1 z2
/-- the owned list in slot i is written -/
theorem St.write {a : Addr} {vs : List V} {xs ys : List PyData} (s : St C H0 H σ δ) (i : Nat) (e : δ[i]? = some (some (.own a ys))) (h5 : RpA C.K H0 vs xs) : St C H0 (upd H a (.lst vs)) σ (δ.set i (some (.own a xs))) := by
  obtain ⟨v, e1, rfl, h1, h2, h3, us, h4, h6⟩ := s.sl i _ e
  refine ⟨⟨fun b o q => ?_, fun b o n q => ?_, s.fz, s.nw, fun p q => ?_⟩, by rw [List.length_set, s.len], fun j r q => ?_, fun j k b c zs ws n q1 q2 => ?_⟩
  · rw [upd_ne (fun z => by rw [z, h1] at q; cases q)]; exact s.sub b o q
  · rw [upd_ne (fun z => by rw [z, h2] at q; cases q)]; exact s.kp b o n q
  · obtain ⟨c, i', v', s', cells, g1, g2, g3⟩ := s.dr p q
    exact ⟨c, i', v', s', cells, by rw [upd_ne (fun z => h3 (by rw [← z]; exact q))]; exact g1, g2, g3⟩
  · by_cases z : i = j
    · subst z
      rw [List.getElem?_set_self'] at q
      rw [e] at q
      simp at q
      subst q
      exact ⟨_, e1, rfl, h1, h2, h3, vs, upd_same, h5⟩
    · rw [List.getElem?_set_ne z] at q
      obtain ⟨u, f1, f2⟩ := s.sl j r q
      refine ⟨u, f1, ?_⟩
      cases r with
      | d x => exact f2
      | own b zs =>
        obtain ⟨k1, k2, k3, k4, ws, k5, k6⟩ := f2
        exact ⟨k1, k2, k3, k4, ws, by rw [upd_ne (s.sep j i b a zs ys (fun z' => z z'.symm) q e)]; exact k5, k6⟩
      | drw => exact f2
      | raw u => exact f2
      | scr ns => exact f2
  · have f : ∀ {j : Nat} {b : Addr} {zs : List PyData}, (δ.set i (some (R.own a xs)))[j]? = some (some (R.own b zs)) → ∃ zs', δ[j]? = some (some (R.own b zs')) := fun {j b zs} e' => by
      by_cases q : i = j
      · subst q
        rw [List.getElem?_set_self', e] at e'
        simp at e'
        exact ⟨ys, by rw [e, e'.1]⟩
      · rw [List.getElem?_set_ne q] at e'; exact ⟨zs, e'⟩
    obtain ⟨z1, w1⟩ := f q1
    obtain ⟨z2, w2⟩ := f q2
    exact s.sep j k b c z1 z2 n w1 w2
/-- an owned list stands still from here on -/
theorem St.freeze {a : Addr} {xs : List PyData} (s : St C H0 H σ δ) (i : Nat) (e : δ[i]? = some (some (.own a xs))) : ∃ H0', Same H0 H0' ∧ St C H0' H σ (δ.set i (some (.d (.list xs)))) := by
  obtain ⟨v, e1, rfl, h1, h2, h3, us, h4, h6⟩ := s.sl i _ e
  have gr : Same H0 (upd H0 a (.lst us)) := fun b o q => by rw [upd_ne (fun z => by rw [z, h1] at q; cases q)]; exact q
  have w' : Wf C (upd H0 a (.lst us)) H := by
    refine ⟨fun b o q => ?_, s.kp, s.fz.trans gr, fun b o q => ?_, fun p q => ?_⟩
    · by_cases z : b = a
      · subst z; rw [upd_same] at q; cases q; exact h4
      · rw [upd_ne z] at q; exact s.sub b o q
    · by_cases z : b = a
      · subst z; exact .inr h2
      · rw [upd_ne z] at q; exact s.nw b o q
    · obtain ⟨c, i', v', s', cells, g1, g2, g3, g4⟩ := s.dr p q
      exact ⟨c, i', v', s', cells, g1, gr _ _ g2, by rw [upd_ne (fun z => h3 (by rw [← z]; exact q))]; exact g3, g4⟩
  refine ⟨_, gr, w', by rw [List.length_set, s.len], fun j r q => ?_, fun j k b c zs ws n q1 q2 => ?_⟩
  · by_cases z : i = j
    · subst z
      rw [List.getElem?_set_self', e] at q
      simp at q
      subst q
      exact ⟨_, e1, .lst upd_same (h6.mono gr)⟩
    · rw [List.getElem?_set_ne z] at q
      obtain ⟨u, f1, f2⟩ := s.sl j r q
      refine ⟨u, f1, ?_⟩
      cases r with
      | d x => exact Rp.mono gr f2
      | own b zs =>
        obtain ⟨k1, k2, k3, k4, ws, k5, k6⟩ := f2
        exact ⟨k1, by rw [upd_ne (s.sep j i b a zs xs (fun z' => z z'.symm) q e)]; exact k2, k3, k4, ws, k5, k6.mono gr⟩
      | drw => exact f2
      | raw u => exact f2
      | scr ns => obtain ⟨a', e', q'⟩ := f2; exact ⟨a', e', gr.seq q'⟩
  · have f : ∀ {j : Nat} {b : Addr} {zs : List PyData}, (δ.set i (some (R.d (.list xs))))[j]? = some (some (R.own b zs)) → δ[j]? = some (some (R.own b zs)) := fun {j b zs} e' => by
      by_cases q : i = j
      · subst q
        rw [List.getElem?_set_self', e] at e'
        simp at e'
      · rw [List.getElem?_set_ne q] at e'; exact e'
    exact s.sep j k b c zs ws n (f q1) (f q2)
end

/-! ### what a reading of the hand layer asks, by data -/
abbrev DE := Dl → (PyData → Prop) → Prop
abbrev DT := Dl → (Bool → Prop) → Prop
abbrev DA := Dl → (List PyData → Prop) → Prop
abbrev DR := Dl → (List R → Prop) → Prop
abbrev DO := Dl → (List PyData → Prop) → Prop
def hid (C : Ctx) (H : Hp) : Hp := fun b => if C.ex = some b then none else H b
def loc (C : Ctx) (f : Bool) (H0 H : Hp) : Hp := match f with
  | true => H0
  | false => hid C H
section
variable {C : Ctx} {H0 H H0' H' H0'' H'' : Hp} {σ : L2.St} {δ : Dl} {v : V} {x : PyData} {f g : Bool}
theorem hid_sub (C : Ctx) (H : Hp) : Same (hid C H) H := fun b o e => by
  unfold hid at e
  split at e
  · cases e
  · exact e
theorem hid_of {a : Addr} {o : HO} (h : H a = some o) (n : C.ex ≠ some a) : hid C H a = some o := by
  unfold hid
  rw [if_neg n]
  exact h
theorem Wf.hid (w : Wf C H0 H) : Same H0 (hid C H) := fun b o e => by
  refine hid_of (w.sub b o e) fun z => ?_
  obtain ⟨_, _, _, _, _, _, _, q, _⟩ := w.dr b z
  rw [e] at q; cases q
theorem Wf.loc (w : Wf C H0 H) : Same (loc C f H0 H) H := by
  cases f with
  | true => exact w.sub
  | false => exact hid_sub C H
theorem Wf.to (w : Wf C H0 H) : Same H0 (VL.loc C f H0 H) := by
  cases f with
  | true => exact Same.refl _
  | false => exact w.hid
theorem Go.loc (q : Go C H0 H H0' H') : Same (loc C f H0 H) (loc C f H0' H') := by
  cases f with
  | true => exact q.fz
  | false =>
    intro b o e
    show VL.hid C H' b = some o
    have e : VL.hid C H b = some o := e
    unfold VL.hid at e
    split at e
    · cases e
    · rename_i n
      exact hid_of (q.kp b o n e) n
/-- a new frozen object -/
theorem Go.new {p : Addr} {o : HO} (w : Wf C H0 H) (hp : H p = none) : Go C H0 H (upd H0 p o) (upd H p o) := by
  have h0 : H0 p = none := by
    cases q : H0 p with
    | none => rfl
    | some u => rw [w.sub p u q] at hp; cases hp
  have gr : Same H0 (upd H0 p o) := fun b u q => by rw [upd_ne (fun z => by rw [z, h0] at q; cases q)]; exact q
  refine ⟨⟨fun b u q => ?_, fun b u n q => ?_, w.fz.trans gr, fun b u q => ?_, fun c q => ?_⟩, gr, fun b u n q => ?_, fun b u q => ?_⟩
  · by_cases z : b = p
    · subst z; rw [upd_same] at q ⊢; exact q
    · rw [upd_ne z] at q ⊢; exact w.sub b u q
  · have e := w.kp b u n q
    rw [upd_ne (fun z => by rw [z, hp] at e; cases e)]; exact e
  · by_cases z : b = p
    · subst z
      cases hq : C.He b with
      | none => exact .inr rfl
      | some y =>
        by_cases n : C.ex = some b
        · obtain ⟨_, _, _, _, _, g1, _⟩ := w.dr b n
          rw [hp] at g1; cases g1
        · rw [w.kp b y n hq] at hp; cases hp
    · rw [upd_ne z] at q; exact w.nw b u q
  · obtain ⟨k, i', v', s', cells, g1, g2, g3, g4⟩ := w.dr c q
    have nc : c ≠ p := fun z => by rw [z, hp] at g1; cases g1
    exact ⟨k, i', v', s', cells, by rw [upd_ne nc]; exact g1, gr _ _ g2, by rw [upd_ne nc]; exact g3, g4⟩
  · rw [upd_ne (fun z => by rw [z, hp] at q; cases q)]; exact q
  · by_cases z : b = p
    · subst z; exact .inr hp
    · rw [upd_ne z] at q; exact .inl q
/-- a new object that is not frozen -/
theorem Go.free {p : Addr} {o : HO} (w : Wf C H0 H) (hp : H p = none) : Go C H0 H H0 (upd H p o) := by
  have h0 : H0 p = none := by
    cases q : H0 p with
    | none => rfl
    | some u => rw [w.sub p u q] at hp; cases hp
  refine ⟨⟨fun b u q => ?_, fun b u n q => ?_, w.fz, w.nw, fun c q => ?_⟩, Same.refl _, fun b u n q => ?_, fun b u q => .inl q⟩
  · rw [upd_ne (fun z => by rw [z, h0] at q; cases q)]; exact w.sub b u q
  · have e := w.kp b u n q
    rw [upd_ne (fun z => by rw [z, hp] at e; cases e)]; exact e
  · obtain ⟨k, i', v', s', cells, g1, g2, g3, g4⟩ := w.dr c q
    have nc : c ≠ p := fun z => by rw [z, hp] at g1; cases g1
    exact ⟨k, i', v', s', cells, by rw [upd_ne nc]; exact g1, g2, g3, g4⟩
  · rw [upd_ne (fun z => by rw [z, hp] at q; cases q)]; exact q

def Sm (C : Ctx) (f : Bool) (te : TE) (de : DE) : Prop := ∀ (σ : L2.St) (δ : Dl) (H0 H : Hp) (Φ : PyData → Prop) (Q : VK), St C H0 H σ δ → de δ Φ →
  (∀ H0' H' v x, Go C H0 H H0' H' → Rp C.K (loc C f H0' H') v x → Φ x → Q v H') → te σ H Q
def SmT (C : Ctx) (tt : TT) (dt : DT) : Prop := ∀ (σ : L2.St) (δ : Dl) (H0 H : Hp) (Φ : Bool → Prop) (Q : Bool → Hp → Prop), St C H0 H σ δ → dt δ Φ →
  (∀ H0' H' b, Go C H0 H H0' H' → Φ b → Q b H') → tt σ H Q
def SmA (C : Ctx) (f : Bool) (ta : TA) (da : DA) : Prop := ∀ (σ : L2.St) (δ : Dl) (H0 H : Hp) (Φ : List PyData → Prop) (Q : List V → Hp → Prop), St C H0 H σ δ → da δ Φ →
  (∀ H0' H' vs xs, Go C H0 H H0' H' → RpA C.K (loc C f H0' H') vs xs → Φ xs → Q vs H') → ta σ H Q
inductive RRs (C : Ctx) (H0 H : Hp) : List V → List R → Prop
  | nil : RRs C H0 H [] []
  | cons {v : V} {r : R} {vs : List V} {rs : List R} : RR C H0 H v r → RRs C H0 H vs rs → RRs C H0 H (v :: vs) (r :: rs)
theorem RRs.go : ∀ {vs : List V} {rs : List R}, RRs C H0 H vs rs → Go C H0 H H0' H' → RRs C H0' H' vs rs
  | _, _, .nil, _ => .nil
  | _, _, .cons h r, g => .cons (h.go g) (RRs.go r g)
theorem RRs.length : ∀ {vs : List V} {rs : List R}, RRs C H0 H vs rs → vs.length = rs.length
  | _, _, .nil => rfl
  | _, _, .cons _ r => by rw [List.length_cons, List.length_cons, RRs.length r]
def SmR (C : Ctx) (ta : TA) (da : DR) : Prop := ∀ (σ : L2.St) (δ : Dl) (H0 H : Hp) (Φ : List R → Prop) (Q : List V → Hp → Prop), St C H0 H σ δ → da δ Φ →
  (∀ H0' H' vs rs, Go C H0 H H0' H' → RRs C H0' H' vs rs → Φ rs → Q vs H') → ta σ H Q
/-- a new list, not frozen yet -/
def SmO (C : Ctx) (te : TE) (de : DO) : Prop := ∀ (σ : L2.St) (δ : Dl) (H0 H : Hp) (Φ : List PyData → Prop) (Q : VK), St C H0 H σ δ → de δ Φ →
  (∀ H0' H' a vs xs, Go C H0 H H0' H' → H a = none → H0' a = none → H' a = some (.lst vs) → RpA C.K H0' vs xs → Φ xs → Q (.ref a) H') → te σ H Q
theorem Go.he {a : Addr} (w : Wf C H0 H) (hp : H a = none) : C.He a = none ∧ C.ex ≠ some a := by
  have n : C.ex ≠ some a := fun z => by
    obtain ⟨_, _, _, _, _, g1, _⟩ := w.dr a z
    rw [hp] at g1; cases g1
  refine ⟨?_, n⟩
  cases hq : C.He a with
  | none => rfl
  | some y => rw [w.kp a y n hq] at hp; cases hp
/-- .. is frozen -/
theorem Go.frz {a : Addr} {vs : List V} (w : Wf C H0 H) (q : Go C H0 H H0' H') (hp : H a = none) (h0 : H0' a = none) (h : H' a = some (.lst vs)) : Go C H0 H (upd H0' a (.lst vs)) H' := by
  have gr : Same H0' (upd H0' a (.lst vs)) := fun b u e => by rw [upd_ne (fun z => by rw [z, h0] at e; cases e)]; exact e
  obtain ⟨he, n⟩ := Go.he w hp
  refine ⟨⟨fun b u e => ?_, q.wf.kp, q.wf.fz.trans gr, fun b u e => ?_, fun c e => ?_⟩, q.fz.trans gr, q.kp, fun b u e => ?_⟩
  · by_cases z : b = a
    · subst z; rw [upd_same] at e; cases e; exact h
    · rw [upd_ne z] at e; exact q.wf.sub b u e
  · by_cases z : b = a
    · subst z; exact .inr he
    · rw [upd_ne z] at e; exact q.wf.nw b u e
  · obtain ⟨k, i', v', s', cells, g1, g2, g3, g4⟩ := q.wf.dr c e
    exact ⟨k, i', v', s', cells, g1, gr _ _ g2, by rw [upd_ne (fun z => n (by rw [← z]; exact e))]; exact g3, g4⟩
  · by_cases z : b = a
    · subst z; exact .inr hp
    · rw [upd_ne z] at e; exact q.nw b u e

/-! ### expressions -/
variable {te ta tb tc : TE} {de da db dc : DE} {tt tu : TT} {dt du : DT} {tas : TA} {das : DA} {f1 f2 : Bool}
theorem Sm.fz (h : Sm C true te de) : Sm C f te de := fun σ δ H0 H Φ Q s w q => h σ δ H0 H Φ Q s w fun H0' H' v x g r p => q H0' H' v x g (r.mono g.wf.to) p
theorem SmA.fz (h : SmA C true tas das) : SmA C f tas das := fun σ δ H0 H Φ Q s w q => h σ δ H0 H Φ Q s w fun H0' H' v x g r p => q H0' H' v x g (r.mono g.wf.to) p
@[simp] def dVar (i : Nat) : DE := fun δ Φ => ∃ x, δ[i]? = some (some (.d x)) ∧ Φ x
theorem sm_var (i : Nat) : Sm C f (tVar i) (dVar i) := fun σ δ H0 H Φ Q s ⟨x, e, p⟩ q => by
  obtain ⟨v, e1, h⟩ := s.sl i _ e
  exact ⟨v, e1, q H0 H v x (.refl s.toWf) (Rp.mono s.toWf.to h) p⟩
/-- an owned list, looked at -/
@[simp] def dVarO (i : Nat) : DE := fun δ Φ => ∃ a xs, δ[i]? = some (some (.own a xs)) ∧ Φ (.list xs)
theorem sm_varO (i : Nat) : Sm C false (tVar i) (dVarO i) := fun σ δ H0 H Φ Q s ⟨a, xs, e, p⟩ q => by
  obtain ⟨v, e1, rfl, h1, h2, h3, vs, h4, h5⟩ := s.sl i _ e
  exact ⟨_, e1, q H0 H _ _ (.refl s.toWf) (.lst (hid_of h4 h3) (h5.mono s.toWf.hid)) p⟩
@[simp] def dC (x : PyData) : DE := fun _ Φ => Φ x
theorem sm_int (i : Int) : Sm C f (tC (.int i)) (dC (.int i)) := fun σ δ H0 H Φ Q s p q => q H0 H _ _ (.refl s.toWf) (.int i) p
theorem sm_bl (i : Bool) : Sm C f (tC (.bl i)) (dC (.bool i)) := fun σ δ H0 H Φ Q s p q => q H0 H _ _ (.refl s.toWf) (.bl i) p
theorem sm_str (i : Str) : Sm C f (tC (.str i)) (dC (.str i)) := fun σ δ H0 H Φ Q s p q => q H0 H _ _ (.refl s.toWf) (.str i) p
theorem sm_non : Sm C f (tC .non) (dC .none) := fun σ δ H0 H Φ Q s p q => q H0 H _ _ (.refl s.toWf) .non p
/-- an operation on two values whose answer is scalar and that leaves the heap -/
def OpD (C : Ctx) (r : R2) (g : PyData → PyData → (PyData → Prop) → Prop) : Prop := ∀ (H : Hp) (v u : V) (x y : PyData) (Φ : PyData → Prop) (Q : VK), Rp C.K H v x → Rp C.K H u y → g x y Φ → (∀ w z, (∀ H, Rp C.K H w z) → Φ z → Q w H) → r v u H Q
@[simp] def dOp (g : PyData → PyData → (PyData → Prop) → Prop) (da db : DE) : DE := fun δ Φ => da δ fun x => db δ fun y => g x y Φ
theorem sm_op {r : R2} {g : PyData → PyData → (PyData → Prop) → Prop} (hr : OpD C r g) (ha : Sm C f1 ta da) (hb : Sm C f2 tb db) : Sm C f (tOp r ta tb) (dOp g da db) := fun σ δ H0 H Φ Q s w q =>
  ha σ δ H0 H _ _ s w fun H01 H1 v x g1 r1 w1 => hb σ δ H01 H1 _ _ (s.go g1) w1 fun H02 H2 u y g2 r2 w2 =>
    hr H2 v u x y Φ Q ((r1.mono g2.loc).mono g2.wf.loc) (r2.mono g2.wf.loc) w2 fun w' z hz p => q H02 H2 w' z (g1.trans g2) (hz _) p
def isScalV : V → Option PyData
  | .non => some .none
  | .bl b => some (.bool b)
  | .int i => some (.int i)
  | .str s => some (.str s)
  | _ => none
theorem isScal_rp {K : PySem.W.Frag} {v : V} {x : PyData} (h : isScalV v = some x) (H : Hp) : Rp K H v x := by
  cases v <;> simp [isScalV] at h <;> subst h <;> constructor
@[simp] def gI0 (g : Int → Int → PyData) : PyData → PyData → (PyData → Prop) → Prop := fun x y Φ => ∃ i j, x = .int i ∧ y = .int j ∧ Φ (g i j)
@[simp] def gI (c : Int → Int → Prop) (g : Int → Int → PyData) : PyData → PyData → (PyData → Prop) → Prop := fun x y Φ => ∃ i j, x = .int i ∧ y = .int j ∧ c i j ∧ Φ (g i j)
theorem opd_I0 {g : Int → Int → V} {g' : Int → Int → PyData} (h : ∀ i j, isScalV (g i j) = some (g' i j)) : OpD C (rI0 g) (gI0 g') := fun H v u x y Φ Q rv ru ⟨i, j, e1, e2, p⟩ q => by
  subst e1 e2
  cases rv
  cases ru
  exact ⟨i, j, rfl, rfl, q _ _ (isScal_rp (h i j)) p⟩
theorem opd_I {c : Int → Int → Prop} {g : Int → Int → V} {g' : Int → Int → PyData} (h : ∀ i j, isScalV (g i j) = some (g' i j)) : OpD C (rI c g) (gI c g') := fun H v u x y Φ Q rv ru ⟨i, j, e1, e2, e3, p⟩ q => by
  subst e1 e2
  cases rv
  cases ru
  exact ⟨i, j, rfl, rfl, e3, q _ _ (isScal_rp (h i j)) p⟩
@[simp] def toV : PyData → Option V
  | .none => some .non
  | .bool b => some (.bl b)
  | .int i => some (.int i)
  | .str s => some (.str s)
  | _ => none
theorem toV_rp {K : PySem.W.Frag} {H : Hp} {v w : V} {x : PyData} (h : Rp K H v x) (e : toV x = some w) : v = w := by
  cases h <;> simp [toV] at e <;> subst e <;> rfl
@[simp] def gEq (neg : Bool) : PyData → PyData → (PyData → Prop) → Prop := fun x y Φ => ∃ v u, toV x = some v ∧ toV y = some u ∧ scal v u = true ∧ Φ (.bool (if neg then !decide (v = u) else decide (v = u)))
theorem opd_eq : OpD C rEq (gEq false) := fun H v u x y Φ Q rv ru ⟨v', u', e1, e2, e3, p⟩ q => by
  have a := toV_rp rv e1
  have b := toV_rp ru e2
  subst a b
  exact ⟨e3, q _ _ (fun _ => .bl _) p⟩
theorem opd_ne : OpD C rNe (gEq true) := fun H v u x y Φ Q rv ru ⟨v', u', e1, e2, e3, p⟩ q => by
  have a := toV_rp rv e1
  have b := toV_rp ru e2
  subst a b
  exact ⟨e3, q _ _ (fun _ => .bl _) p⟩
@[simp] def gEqD (neg : Bool) : PyData → PyData → (PyData → Prop) → Prop := fun x y Φ => SeqAt.shaped x = true ∧ SeqAt.shaped y = true ∧ Φ (.bool (if neg then !PyData.eqv x y else PyData.eqv x y))
theorem opd_eqD : OpD C (rEqD C.K) (gEqD false) := fun H v u x y Φ Q rv ru ⟨e1, e2, p⟩ q =>
  ⟨x, y, rv.dp (SeqAt.canLay_of_shaped e1), ru.dp (SeqAt.canLay_of_shaped e2), e1, e2, q _ _ (fun _ => .bl _) p⟩
theorem opd_neD : OpD C (rNeD C.K) (gEqD true) := fun H v u x y Φ Q rv ru ⟨e1, e2, p⟩ q =>
  ⟨x, y, rv.dp (SeqAt.canLay_of_shaped e1), ru.dp (SeqAt.canLay_of_shaped e2), e1, e2, q _ _ (fun _ => .bl _) p⟩
@[simp] def isN : PyData → Bool
  | .none => true
  | _ => false
@[simp] def gIsN (neg : Bool) : PyData → PyData → (PyData → Prop) → Prop := fun x y Φ => y = .none ∧ Φ (.bool (if neg then !isN x else isN x))
theorem isN_rp {K : PySem.W.Frag} {H : Hp} {v : V} {x : PyData} (h : Rp K H v x) : decide (v = .non) = isN x := by
  cases h <;> simp [isN]
theorem opd_isN : OpD C (fun x y H Q => y = .non ∧ Q (.bl (decide (x = .non))) H) (gIsN false) := fun H v u x y Φ Q rv ru ⟨e1, p⟩ q => by
  subst e1
  cases ru
  rw [isN_rp rv]
  exact ⟨rfl, q _ _ (fun _ => .bl _) p⟩
theorem opd_notN : OpD C (fun x y H Q => y = .non ∧ Q (.bl (!decide (x = .non))) H) (gIsN true) := fun H v u x y Φ Q rv ru ⟨e1, p⟩ q => by
  subst e1
  cases ru
  rw [isN_rp rv]
  exact ⟨rfl, q _ _ (fun _ => .bl _) p⟩
@[simp] def flatD : PyData → Bool
  | .none => true
  | .bool _ => true
  | .int _ => true
  | .str _ => true
  | _ => false
theorem flat_rp {K : PySem.W.Frag} {H : Hp} {v : V} {x : PyData} (h : Rp K H v x) : flatV v = flatD x := by
  cases h <;> rfl
theorem flats_rp {K : PySem.W.Frag} {H : Hp} : ∀ {vs : List V} {xs : List PyData}, RpA K H vs xs → vs.all flatV = xs.all flatD
  | _, _, .nil => rfl
  | _, _, .cons h r => by rw [List.all_cons, List.all_cons, flat_rp h, flats_rp r]
theorem eqV_rp {K : PySem.W.Frag} {H : Hp} {v u : V} {x y : PyData} (h : Rp K H v x) (k : Rp K H u y) (fx : flatD x = true) (fy : flatD y = true) : eqV v u = PyData.eqv x y := by
  cases h <;> cases k <;> simp [flatD] at fx fy <;> simp [eqV, PyData.eqv]
def inD (x : PyData) (xs : List PyData) : Bool := xs.any fun y => PyData.eqv y x
theorem inV_rp {K : PySem.W.Frag} {H : Hp} {v : V} {x : PyData} (h : Rp K H v x) (fx : flatD x = true) : ∀ {vs : List V} {xs : List PyData}, RpA K H vs xs → xs.all flatD = true → inV v vs = inD x xs
  | _, _, .nil, _ => rfl
  | _, _, .cons k r, e => by
    rw [List.all_cons, Bool.and_eq_true] at e
    have ih := inV_rp h fx r e.2
    unfold inV inD at *
    rw [List.any_cons, List.any_cons, eqV_rp k h e.1 fx, ih]
@[simp] def seqOf : PyData → Option (List PyData)
  | .list xs => some xs
  | .tuple xs => some xs
  | _ => none
@[simp] def gIn (neg : Bool) : PyData → PyData → (PyData → Prop) → Prop := fun x y Φ => ∃ xs, seqOf y = some xs ∧ flatD x = true ∧ xs.all flatD = true ∧ Φ (.bool (if neg then !inD x xs else inD x xs))
theorem opd_in (neg : Bool) : OpD C (rIn C.K neg) (gIn neg) := fun H v u x y Φ Q rv ru ⟨xs, e1, e2, e3, p⟩ q => by
  cases ru with
  | lst h r =>
    simp [seqOf] at e1
    subst e1
    exact ⟨_, _, rfl, .inl (SqL.of h), by rw [flat_rp rv, e2], by rw [flats_rp r, e3], by rw [inV_rp rv e2 r e3]; exact q _ _ (fun _ => .bl _) p⟩
  | tup h r =>
    simp [seqOf] at e1
    subst e1
    exact ⟨_, _, rfl, .inr h, by rw [flat_rp rv, e2], by rw [flats_rp r, e3], by rw [inV_rp rv e2 r e3]; exact q _ _ (fun _ => .bl _) p⟩
  | _ => simp [seqOf] at e1
/-- a text added to a text -/
def gCatS : PyData → PyData → (PyData → Prop) → Prop := fun x y Φ => ∃ a b, x = .str a ∧ y = .str b ∧ a.length + b.length ≤ sizeLine ∧ Φ (.str (a ++ b))
/-- an item -/
theorem atI_rp {K : PySem.W.Frag} {H : Hp} {vs : List V} {xs : List PyData} {i : Int} {y : PyData} (r : RpA K H vs xs) (e : atI xs i = some y) : ∃ v, atI vs i = some v ∧ Rp K H v y := by
  unfold atI at e ⊢
  rw [r.length]
  cases h : ixN xs.length i with
  | none => rw [h] at e; simp at e
  | some j =>
    rw [h] at e
    exact r.get e
@[simp] def gIx : PyData → PyData → (PyData → Prop) → Prop := fun x y Φ => ∃ i, y = .int i ∧ match x with
  | .list xs => ∃ z, atI xs i = some z ∧ Φ z
  | .tuple xs => ∃ z, atI xs i = some z ∧ Φ z
  | .str s => s.length ≤ sizeLine ∧ ∃ c, atI s.cps.toList i = some c ∧ Φ (.str ⟨#[c]⟩)
  | _ => False
theorem sm_ix (ha : Sm C f ta da) (hb : Sm C f2 tb db) : Sm C f (tOp (rIx C.K) ta tb) (dOp gIx da db) := fun σ δ H0 H Φ Q s w q =>
  ha σ δ H0 H _ _ s w fun H01 H1 v x g1 r1 w1 => hb σ δ H01 H1 _ _ (s.go g1) w1 fun H02 H2 u y g2 r2 w2 => by
    obtain ⟨i, rfl, w2⟩ := w2
    cases r2
    have r3 := r1.mono g2.loc
    cases r3 with
    | lst h r =>
      obtain ⟨z, e, p⟩ := w2
      obtain ⟨v, e1, rv⟩ := atI_rp r e
      exact .inl ⟨_, _, i, v, rfl, rfl, SqL.of (g2.wf.loc _ _ h), e1, q H02 H2 v z (g1.trans g2) rv p⟩
    | tup h r =>
      obtain ⟨z, e, p⟩ := w2
      obtain ⟨v, e1, rv⟩ := atI_rp r e
      exact .inr (.inl ⟨_, _, i, v, rfl, rfl, same_t g2.wf.loc h, e1, q H02 H2 v z (g1.trans g2) rv p⟩)
    | str t =>
      obtain ⟨e0, c, e, p⟩ := w2
      exact .inr (.inr ⟨t, i, c, rfl, rfl, e0, e, q H02 H2 _ _ (g1.trans g2) (.str _) p⟩)
    | _ => exact w2.elim
@[simp] def dUn (g : Int → PyData) (da : DE) : DE := fun δ Φ => da δ fun x => ∃ i, x = .int i ∧ Φ (g i)
theorem sm_un {g : Int → V} {g' : Int → PyData} (h : ∀ i, isScalV (g i) = some (g' i)) (ha : Sm C f1 ta da) : Sm C f (tUn (rU g) ta) (dUn g' da) := fun σ δ H0 H Φ Q s w q =>
  ha σ δ H0 H _ _ s w fun H01 H1 v x g1 r1 ⟨i, e, p⟩ => by
    subst e
    cases r1
    exact ⟨i, rfl, q H01 H1 _ _ g1 (isScal_rp (h i) _) p⟩

/-! ### argument lists, displays, calls -/
@[simp] def dNil : DA := fun _ Φ => Φ []
@[simp] def dCons (da : DE) (ds : DA) : DA := fun δ Φ => da δ fun x => ds δ fun xs => Φ (x :: xs)
theorem sma_nil : SmA C f tNil dNil := fun σ δ H0 H Φ Q s w q => q H0 H _ _ (.refl s.toWf) .nil w
theorem sma_cons (ha : Sm C f ta da) (hb : SmA C f tas das) : SmA C f (tCons ta tas) (dCons da das) := fun σ δ H0 H Φ Q s w q =>
  ha σ δ H0 H _ _ s w fun H01 H1 v x g1 r1 w1 => hb σ δ H01 H1 _ _ (s.go g1) w1 fun H02 H2 us ys g2 r2 w2 =>
    q H02 H2 _ _ (g1.trans g2) (.cons (r1.mono g2.loc) r2) w2
@[simp] def dTup (ds : DA) : DE := fun δ Φ => ds δ fun xs => xs.length ≤ sizeLine ∧ Φ (.tuple xs)
theorem Go.same_new {p : Addr} {o : HO} (h0 : H0 p = none) : Same H0 (upd H0 p o) := fun b u q => by rw [upd_ne (fun z => by rw [z, h0] at q; cases q)]; exact q
theorem Wf.none (w : Wf C H0 H) {p : Addr} (hp : H p = Option.none) : H0 p = Option.none := by
  cases q : H0 p with
  | none => rfl
  | some u => rw [w.sub p u q] at hp; cases hp
theorem sm_tup (ha : SmA C true tas das) : Sm C f (tTup tas) (dTup das) := fun σ δ H0 H Φ Q s w q =>
  ha σ δ H0 H _ _ s w fun H01 H1 vs xs g1 r1 ⟨e, p⟩ => ⟨by rw [r1.length]; exact e, fun l hl => by
    have g2 := Go.new (o := .tup vs) g1.wf hl
    refine q _ _ _ _ (g1.trans g2) ?_ p
    exact Rp.mono g2.wf.to (.tup (SqT.of upd_same) (r1.mono (Go.same_new (g1.wf.none hl))))⟩
@[simp] def oLst (ds : DA) : DO := fun δ Φ => ds δ fun xs => xs.length ≤ sizeLine ∧ Φ xs
theorem smo_lst (ha : SmA C true tas das) : SmO C (tLst tas) (oLst das) := fun σ δ H0 H Φ Q s w q =>
  ha σ δ H0 H _ _ s w fun H01 H1 vs xs g1 r1 ⟨e, p⟩ => ⟨by rw [r1.length]; exact e, fun l hl => by
    have g2 := Go.free (o := .lst vs) g1.wf hl
    refine q _ _ l vs xs (g1.trans g2) ?_ (g1.wf.none hl) upd_same r1 p
    cases z : H l with
    | none => rfl
    | some u =>
      by_cases n : C.ex = some l
      · obtain ⟨_, _, _, _, _, k1, _⟩ := g1.wf.dr l n
        rw [hl] at k1; cases k1
      · rw [g1.kp l u n z] at hl; cases hl⟩
/-- a new list as data -/
@[simp] def dO (o : DO) : DE := fun δ Φ => o δ fun xs => Φ (.list xs)
theorem SmO.sm {o : DO} (h : SmO C te o) : Sm C f te (dO o) := fun σ δ H0 H Φ Q s w q =>
  h σ δ H0 H _ _ s w fun H01 H1 a vs xs g1 e1 e2 e3 r p => by
    have g2 := Go.frz s.toWf g1 e1 e2 e3
    refine q _ _ _ _ g2 (Rp.mono g2.wf.to ?_) p
    exact .lst upd_same (r.mono (Go.same_new e2))
/-- a new list, its elements from others -/
@[simp] def oCat (da db : DE) : DO := fun δ Φ => da δ fun x => db δ fun y => ∃ xs ys, x = .list xs ∧ y = .list ys ∧ xs.length + ys.length ≤ sizeLine ∧ Φ (xs ++ ys)
theorem Go.fresh {p : Addr} (g : Go C H0 H H0' H') (hp : H' p = none) : H p = none := by
  cases z : H p with
  | none => rfl
  | some u =>
    by_cases n : C.ex = some p
    · obtain ⟨_, _, _, _, _, k1, _⟩ := g.wf.dr p n
      rw [hp] at k1; cases k1
    · rw [g.kp p u n z] at hp; cases hp
theorem smo_cat (ha : Sm C true ta da) (hb : Sm C true tb db) : SmO C (tOp rCat ta tb) (oCat da db) := fun σ δ H0 H Φ Q s w q =>
  ha σ δ H0 H _ _ s w fun H01 H1 v x g1 r1 w1 => hb σ δ H01 H1 _ _ (s.go g1) w1 fun H02 H2 u y g2 r2 ⟨xs, ys, e1, e2, e3, p⟩ => by
    subst e1 e2
    have r3 := r1.mono g2.fz
    cases r3 with
    | @lst a1 us1 _ h r =>
      cases r2 with
      | @lst a2 us2 _ h' r' =>
        refine ⟨_, _, _, _, rfl, rfl, g2.wf.sub _ _ h, g2.wf.sub _ _ h', by rw [r.length, r'.length]; exact e3, fun l hl => ?_⟩
        have g3 := Go.free (o := .lst (us1 ++ us2)) g2.wf hl
        exact q _ _ l _ _ ((g1.trans g2).trans g3) ((g1.trans g2).fresh hl) (g2.wf.none hl) upd_same (r.append r') p
@[simp] def oList (da : DE) : DO := fun δ Φ => da δ fun x => ∃ xs, seqOf x = some xs ∧ Φ xs
theorem smo_list (ha : Sm C true ta da) : SmO C (tCB (fun xs H Q => ∃ p ys, xs = [.ref p] ∧ (SqL C.K H p ys ∨ SqT C.K H p ys) ∧ ∀ l, H l = none → Q (.ref l) (upd H l (.lst ys))) (tCons ta tNil)) (oList da) := fun σ δ H0 H Φ Q s w q =>
  ha σ δ H0 H _ _ s w fun H01 H1 v x g1 r1 ⟨xs, e, p⟩ => by
    cases r1 with
    | lst h r =>
      simp [seqOf] at e
      subst e
      exact ⟨_, _, rfl, .inl (SqL.of (g1.wf.sub _ _ h)), fun l hl => q _ _ l _ _ (g1.trans (Go.free (o := .lst _) g1.wf hl)) (g1.fresh hl) (g1.wf.none hl) upd_same r p⟩
    | tup h r =>
      simp [seqOf] at e
      subst e
      exact ⟨_, _, rfl, .inr (same_t g1.wf.sub h), fun l hl => q _ _ l _ _ (g1.trans (Go.free (o := .lst _) g1.wf hl)) (g1.fresh hl) (g1.wf.none hl) upd_same r p⟩
    | _ => simp [seqOf] at e
/-- tuple(x) -/
@[simp] def dTuple (da : DE) : DE := fun δ Φ => da δ fun x => ∃ xs, seqOf x = some xs ∧ Φ (.tuple xs)
/-- the elements of a list that is looked at, kept in the frozen part -/
theorem sm_tuple (ha : Sm C true ta da) : Sm C f (tCB (fun xs H Q => ∃ p ys, xs = [.ref p] ∧ ((SqL C.K H p ys ∧ ∀ l, H l = none → Q (.ref l) (upd H l (.tup ys))) ∨ (SqT C.K H p ys ∧ Q (.ref p) H))) (tCons ta tNil)) (dTuple da) := fun σ δ H0 H Φ Q s w q =>
  ha σ δ H0 H _ _ s w fun H01 H1 v x g1 r1 ⟨xs, e, p⟩ => by
    cases r1 with
    | @lst a1 us1 _ h r =>
      simp [seqOf] at e
      subst e
      refine ⟨_, _, rfl, .inl ⟨SqL.of (g1.wf.sub _ _ h), fun l hl => ?_⟩⟩
      have g2 := Go.new (o := .tup us1) g1.wf hl
      exact q _ _ _ _ (g1.trans g2) (Rp.mono g2.wf.to (.tup (SqT.of upd_same) (r.mono (Go.same_new (g1.wf.none hl))))) p
    | tup h r =>
      simp [seqOf] at e
      subst e
      exact ⟨_, _, rfl, .inr ⟨same_t g1.wf.sub h, q _ _ _ _ g1 (Rp.mono g1.wf.to (.tup h r)) p⟩⟩
    | _ => simp [seqOf] at e
/-- a built-in on data, its answer scalar -/
def CbD (C : Ctx) (r : List V → Hp → VK → Prop) (g : List PyData → (PyData → Prop) → Prop) : Prop := ∀ (H : Hp) (vs : List V) (xs : List PyData) (Φ : PyData → Prop) (Q : VK), RpA C.K H vs xs → g xs Φ → (∀ w z, (∀ H, Rp C.K H w z) → Φ z → Q w H) → r vs H Q
@[simp] def dCB (g : List PyData → (PyData → Prop) → Prop) (ds : DA) : DE := fun δ Φ => ds δ fun xs => g xs Φ
theorem sm_cb {r : List V → Hp → VK → Prop} {g : List PyData → (PyData → Prop) → Prop} (hr : CbD C r g) (ha : SmA C f1 tas das) : Sm C f (tCB r tas) (dCB g das) := fun σ δ H0 H Φ Q s w q =>
  ha σ δ H0 H _ _ s w fun H01 H1 vs xs g1 r1 w1 => hr H1 vs xs Φ Q (r1.mono g1.wf.loc) w1 fun w' z hz p => q _ _ w' z g1 (hz _) p
@[simp] def gLen : List PyData → (PyData → Prop) → Prop := fun xs Φ => ∃ x, xs = [x] ∧ match x with
  | .list ys => Φ (.int ys.length)
  | .tuple ys => Φ (.int ys.length)
  | .str s => s.length ≤ sizeLine ∧ Φ (.int s.length)
  | _ => False
theorem cbd_len : CbD C (fun xs H Q => ∃ x n, xs = [x] ∧ LenV C.K x H n ∧ Q (.int n) H) gLen := fun H vs xs Φ Q r ⟨x, e, p⟩ q => by
  subst e
  cases r with
  | cons h n =>
    cases n
    cases h with
    | lst h r => exact ⟨_, _, rfl, .inl ⟨_, SqL.of h, rfl⟩, by rw [r.length]; exact q _ _ (fun _ => .int _) p⟩
    | tup h r => exact ⟨_, _, rfl, .inr ⟨_, h, rfl⟩, by rw [r.length]; exact q _ _ (fun _ => .int _) p⟩
    | str t => exact ⟨_, _, rfl, ⟨p.1, rfl⟩, q _ _ (fun _ => .int _) p.2⟩
    | _ => exact p.elim
@[simp] def gAbs : List PyData → (PyData → Prop) → Prop := fun xs Φ => ∃ i, xs = [.int i] ∧ Φ (.int (if i < 0 then -i else i))
theorem cbd_abs : CbD C (fun xs H Q => ∃ i, xs = [.int i] ∧ Q (.int (if i < 0 then -i else i)) H) gAbs := fun H vs xs Φ Q r ⟨i, e, p⟩ q => by
  subst e
  cases r with
  | cons h n => cases n; cases h; exact ⟨i, rfl, q _ _ (fun _ => .int _) p⟩
@[simp] def gMax : List PyData → (PyData → Prop) → Prop := fun xs Φ => ∃ i j, xs = [.int i, .int j] ∧ Φ (.int (if j > i then j else i))
theorem cbd_max : CbD C (fun xs H Q => ∃ i j, xs = [.int i, .int j] ∧ Q (.int (if j > i then j else i)) H) gMax := fun H vs xs Φ Q r ⟨i, j, e, p⟩ q => by
  subst e
  cases r with
  | cons h n => cases h; cases n with | cons h n => cases n; cases h; exact ⟨i, j, rfl, q _ _ (fun _ => .int _) p⟩
@[simp] def gMin : List PyData → (PyData → Prop) → Prop := fun xs Φ => ∃ i j, xs = [.int i, .int j] ∧ Φ (.int (if j < i then j else i))
theorem cbd_min : CbD C (fun xs H Q => ∃ i j, xs = [.int i, .int j] ∧ Q (.int (if j < i then j else i)) H) gMin := fun H vs xs Φ Q r ⟨i, j, e, p⟩ q => by
  subst e
  cases r with
  | cons h n => cases h; cases n with | cons h n => cases n; cases h; exact ⟨i, j, rfl, q _ _ (fun _ => .int _) p⟩
@[simp] def gInt : List PyData → (PyData → Prop) → Prop := fun xs Φ => ∃ x, xs = [x] ∧ match x with
  | .int i => Φ (.int i)
  | .bool k => Φ (.int (if k then 1 else 0))
  | _ => False
theorem cbd_int : CbD C (fun xs H Q => (∃ i, xs = [.int i] ∧ Q (.int i) H) ∨ ∃ k, xs = [.bl k] ∧ Q (.int (if k then 1 else 0)) H) gInt := fun H vs xs Φ Q r ⟨x, e, p⟩ q => by
  subst e
  cases r with
  | cons h n =>
    cases n
    cases h with
    | int i => exact .inl ⟨i, rfl, q _ _ (fun _ => .int _) p⟩
    | bl k => exact .inr ⟨k, rfl, q _ _ (fun _ => .int _) p⟩
    | _ => exact p.elim
@[simp] def gStr : List PyData → (PyData → Prop) → Prop := fun xs Φ => ∃ i, xs = [.int i] ∧ i.natAbs.log2 < 1920 ∧ Φ (.str (toString i))
theorem cbd_str : CbD C (fun xs H Q => ∃ i, xs = [.int i] ∧ i.natAbs.log2 < 1920 ∧ Q (.str (toString i)) H) gStr := fun H vs xs Φ Q r ⟨i, e, e2, p⟩ q => by
  subst e
  cases r with
  | cons h n => cases n; cases h; exact ⟨i, rfl, e2, q _ _ (fun _ => .str _) p⟩
/-- isinstance of data -/
def tyD : PyData → String
  | .none => "NoneType"
  | .bool _ => "bool"
  | .int _ => "int"
  | .str _ => "str"
  | .list _ => "list"
  | .tuple _ => "tuple"
  | .dict _ => "dict"
@[simp] def dIsi (n : String) (da : DE) : DE := fun δ Φ => da δ fun x => ∃ b, kitB (tyD x) n = some b ∧ Φ (.bool b)
theorem tyD_rp {K : PySem.W.Frag} {v : V} {x : PyData} (h : Rp K H v x) : TyX K H v (.type (tyD x)) := by
  cases h with
  | non => exact .base .non
  | bl b => exact .base (.bl b)
  | int b => exact .base (.int b)
  | str b => exact .base (.str b)
  | lst h _ => exact .base (.lst h)
  | dic h _ => exact .base (.dK h)
  | tup h _ =>
    rcases h with (h | ⟨o, h⟩) | ⟨o, its, n, h, c, _⟩
    · exact .base (.tup h)
    · exact .fTuple h
    · exact .kTuple h c
theorem sm_isi (n : String) (ha : Sm C f1 ta da) : Sm C f (tCB (rIsi C.K) (tCons ta (tCons (tC (.ty n)) tNil))) (dIsi n da) := fun σ δ H0 H Φ Q s w q =>
  ha σ δ H0 H _ _ s w fun H01 H1 v x g1 r1 ⟨b, e, p⟩ =>
    ⟨v, .ty n, _, _, b, rfl, .ty n, tyD_rp (r1.mono g1.wf.loc), kit_ty e, q _ _ _ _ g1 (.bl b) p⟩

/-! ### values by tests -/
@[simp] def dIf (dt : DT) (da db : DE) : DE := fun δ Φ => dt δ fun b => if b = true then da δ Φ else db δ Φ
theorem sm_if (ht : SmT C tt dt) (ha : Sm C f ta da) (hb : Sm C f tb db) : Sm C f (tIf tt ta tb) (dIf dt da db) := fun σ δ H0 H Φ Q s w q =>
  ht σ δ H0 H _ _ s w fun H01 H1 b g1 w1 => by
    cases b with
    | true => exact iteT (ha σ δ H01 H1 Φ Q (s.go g1) (by simpa using w1) fun H02 H2 v x g2 r p => q _ _ _ _ (g1.trans g2) r p)
    | false => exact iteF (hb σ δ H01 H1 Φ Q (s.go g1) (by simpa using w1) fun H02 H2 v x g2 r p => q _ _ _ _ (g1.trans g2) r p)
@[simp] def dAndV (da db : DE) : DE := fun δ Φ => da δ fun x => ∃ c, x = .bool c ∧ if c = true then db δ Φ else Φ (.bool false)
theorem sm_and (ha : Sm C f1 ta da) (hb : Sm C f tb db) : Sm C f (tAndV ta tb) (dAndV da db) := fun σ δ H0 H Φ Q s w q =>
  ha σ δ H0 H _ _ s w fun H01 H1 v x g1 r1 ⟨c, e, w1⟩ => by
    subst e
    cases r1
    refine ⟨c, rfl, ?_⟩
    cases c with
    | true => exact iteT (hb σ δ H01 H1 Φ Q (s.go g1) (by simpa using w1) fun H02 H2 v x g2 r p => q _ _ _ _ (g1.trans g2) r p)
    | false => exact iteF (q _ _ _ _ g1 (.bl false) (by simpa using w1))
@[simp] def dOrV (da db : DE) : DE := fun δ Φ => da δ fun x => ∃ c, x = .bool c ∧ if c = true then Φ (.bool true) else db δ Φ
theorem sm_or (ha : Sm C f1 ta da) (hb : Sm C f tb db) : Sm C f (tOrV ta tb) (dOrV da db) := fun σ δ H0 H Φ Q s w q =>
  ha σ δ H0 H _ _ s w fun H01 H1 v x g1 r1 ⟨c, e, w1⟩ => by
    subst e
    cases r1
    refine ⟨c, rfl, ?_⟩
    cases c with
    | false => exact iteF (hb σ δ H01 H1 Φ Q (s.go g1) (by simpa using w1) fun H02 H2 v x g2 r p => q _ _ _ _ (g1.trans g2) r p)
    | true => exact iteT (q _ _ _ _ g1 (.bl true) (by simpa using w1))
@[simp] def dNotV (da : DE) : DE := fun δ Φ => da δ fun x => ∃ c, x = .bool c ∧ Φ (.bool (!c))
theorem sm_not (ha : Sm C f1 ta da) : Sm C f (tNotV ta) (dNotV da) := fun σ δ H0 H Φ Q s w q =>
  ha σ δ H0 H _ _ s w fun H01 H1 v x g1 r1 ⟨c, e, w1⟩ => by
    subst e
    cases r1
    exact ⟨c, rfl, q _ _ _ _ g1 (.bl _) w1⟩

/-! ### tests -/
@[simp] def dB (da : DE) : DT := fun δ Φ => da δ fun x => ∃ c, x = .bool c ∧ Φ c
theorem smt_b (ha : Sm C f1 ta da) : SmT C (tB ta) (dB da) := fun σ δ H0 H Φ Q s w q =>
  ha σ δ H0 H _ _ s w fun H01 H1 v x g1 r1 ⟨c, e, w1⟩ => by
    subst e
    cases r1
    exact ⟨c, rfl, q _ _ _ g1 w1⟩
theorem smt_t (ha : Sm C f1 ta da) : SmT C (tTest ta) (dB da) := fun σ δ H0 H Φ Q s w q =>
  ha σ δ H0 H _ _ s w fun H01 H1 v x g1 r1 ⟨c, e, w1⟩ => by
    subst e
    cases r1
    exact ⟨c, rfl, q _ _ _ g1 w1⟩
@[simp] def dAnd (dt du : DT) : DT := fun δ Φ => dt δ fun c => if c = true then du δ Φ else Φ false
theorem smt_and (ht : SmT C tt dt) (hu : SmT C tu du) : SmT C (tAnd tt tu) (dAnd dt du) := fun σ δ H0 H Φ Q s w q =>
  ht σ δ H0 H _ _ s w fun H01 H1 b g1 w1 => by
    cases b with
    | true => exact iteT (hu σ δ H01 H1 Φ Q (s.go g1) (by simpa using w1) fun H02 H2 c g2 p => q _ _ _ (g1.trans g2) p)
    | false => exact iteF (q _ _ _ g1 (by simpa using w1))
@[simp] def dOr (dt du : DT) : DT := fun δ Φ => dt δ fun c => if c = true then Φ true else du δ Φ
theorem smt_or (ht : SmT C tt dt) (hu : SmT C tu du) : SmT C (tOr tt tu) (dOr dt du) := fun σ δ H0 H Φ Q s w q =>
  ht σ δ H0 H _ _ s w fun H01 H1 b g1 w1 => by
    cases b with
    | false => exact iteF (hu σ δ H01 H1 Φ Q (s.go g1) (by simpa using w1) fun H02 H2 c g2 p => q _ _ _ (g1.trans g2) p)
    | true => exact iteT (q _ _ _ g1 (by simpa using w1))
@[simp] def dNot (dt : DT) : DT := fun δ Φ => dt δ fun c => Φ (!c)
theorem smt_not (ht : SmT C tt dt) : SmT C (tNot tt) (dNot dt) := fun σ δ H0 H Φ Q s w q =>
  ht σ δ H0 H _ _ s w fun H01 H1 b g1 w1 => q _ _ _ g1 w1
end
end VL

namespace VL
open PySem L2
section
variable {C : Ctx} {H0 H H0' H' H0'' H'' : Hp} {σ : L2.St} {δ : Dl} {v : V} {x : PyData} {f : Bool}
variable {te ta tb tc : TE} {de da db dc : DE} {tt tu : TT} {dt du : DT} {tas : TA} {das : DA} {f1 f2 : Bool}
/-! ### calls -/
def RRa (K : PySem.W.Frag) (ex : Option Addr) (H0 : Hp) (v : V) : R → Prop
  | .d x => Rp K H0 v x
  | .own _ _ => False
  | .drw => ∃ p, ex = some p ∧ v = .ref p
  | .raw u => v = u
  | .scr ns => ∃ a, v = .ref a ∧ SqL K H0 a (ns.map V.int)
theorem RRa.mono {K : PySem.W.Frag} {ex : Option Addr} {r : R} (h : RRa K ex H0 v r) (e : Same H0 H0') : RRa K ex H0' v r := by
  cases r with
  | d x => exact Rp.mono e h
  | own a xs => exact h
  | drw => exact h
  | raw u => exact h
  | scr ns => obtain ⟨a, e', q⟩ := h; exact ⟨a, e', e.seq q⟩
inductive RRas (K : PySem.W.Frag) (ex : Option Addr) (H0 : Hp) : List V → List R → Prop
  | nil : RRas K ex H0 [] []
  | cons {v : V} {r : R} {vs : List V} {rs : List R} : RRa K ex H0 v r → RRas K ex H0 vs rs → RRas K ex H0 (v :: vs) (r :: rs)
theorem RRas.length {K : PySem.W.Frag} {ex : Option Addr} : ∀ {vs : List V} {rs : List R}, RRas K ex H0 vs rs → vs.length = rs.length
  | _, _, .nil => rfl
  | _, _, .cons _ r => by rw [List.length_cons, List.length_cons, RRas.length r]
theorem RRas.get {K : PySem.W.Frag} {ex : Option Addr} : ∀ {vs : List V} {rs : List R} {i : Nat} {r : R}, RRas K ex H0 vs rs → rs[i]? = some r → ∃ v, vs[i]? = some v ∧ RRa K ex H0 v r
  | _, _, _, _, .nil, e => by simp at e
  | _, _, 0, _, .cons h _, e => by simp at e; subst e; exact ⟨_, rfl, h⟩
  | _, _, i + 1, _, .cons _ r, e => by
    obtain ⟨v, h1, h2⟩ := RRas.get (i := i) r (by simpa using e)
    exact ⟨v, by simpa using h1, h2⟩
def SmQ (C : Ctx) (ta : TA) (da : DR) : Prop := ∀ (σ : L2.St) (δ : Dl) (H0 H : Hp) (Φ : List R → Prop) (Q : List V → Hp → Prop), St C H0 H σ δ → da δ Φ →
  (∀ H0' H' vs rs, Go C H0 H H0' H' → RRas C.K C.ex H0' vs rs → Φ rs → Q vs H') → ta σ H Q
@[simp] def qNil : DR := fun _ Φ => Φ []
@[simp] def qCons (da : DE) (ds : DR) : DR := fun δ Φ => da δ fun x => ds δ fun xs => Φ (.d x :: xs)
@[simp] def qDrw (i : Nat) (ds : DR) : DR := fun δ Φ => δ[i]? = some (some .drw) ∧ ds δ fun xs => Φ (.drw :: xs)
variable {dqs : DR}
theorem smq_nil : SmQ C tNil qNil := fun σ δ H0 H Φ Q s w q => q H0 H _ _ (.refl s.toWf) .nil w
theorem smq_cons (ha : Sm C true ta da) (hb : SmQ C tas dqs) : SmQ C (tCons ta tas) (qCons da dqs) := fun σ δ H0 H Φ Q s w q =>
  ha σ δ H0 H _ _ s w fun H01 H1 v x g1 r1 w1 => hb σ δ H01 H1 _ _ (s.go g1) w1 fun H02 H2 us ys g2 r2 w2 =>
    q H02 H2 _ _ (g1.trans g2) (RRas.cons (r := R.d x) (Rp.mono g2.fz r1) r2) w2
theorem smq_drw (i : Nat) (hb : SmQ C tas dqs) : SmQ C (tCons (tVar i) tas) (qDrw i dqs) := fun σ δ H0 H Φ Q s ⟨e, w⟩ q => by
  obtain ⟨v, e1, p, h1, h2⟩ := s.sl i _ e
  exact ⟨v, e1, hb σ δ H0 H _ _ s w fun H02 H2 us ys g2 r2 w2 => q H02 H2 _ _ g2 (RRas.cons (r := R.drw) ⟨p, h1, h2⟩ r2) w2⟩

@[simp] def qScr (i : Nat) (ds : DR) : DR := fun δ Φ => ∃ ns, δ[i]? = some (some (.scr ns)) ∧ ds δ fun xs => Φ (.scr ns :: xs)
theorem smq_scr (i : Nat) (hb : SmQ C tas dqs) : SmQ C (tCons (tVar i) tas) (qScr i dqs) := fun σ δ H0 H Φ Q s ⟨ns, e, w⟩ q => by
  obtain ⟨v, e1, a, h1, h2⟩ := s.sl i _ e
  exact ⟨v, e1, hb σ δ H0 H _ _ s w fun H02 H2 us ys g2 r2 w2 => q H02 H2 _ _ g2 (RRas.cons (r := R.scr ns) ⟨a, h1, g2.fz.seq h2⟩ r2) w2⟩

/-- what a def answers, by data -/
abbrev VSp := List R → (RX → Prop) → Prop
def RXR (C : Ctx) (H0 H : Hp) (v : V) : RX → Prop
  | .d x => Rp C.K H0 v x
  | .own xs => ∃ a vs, v = .ref a ∧ H0 a = none ∧ C.He a = none ∧ C.ex ≠ some a ∧ H a = some (.lst vs) ∧ RpA C.K H0 vs xs
def RX.data : RX → PyData
  | .d x => x
  | .own xs => .list xs
@[simp] theorem data_d (x : PyData) : (RX.d x).data = x := rfl
@[simp] theorem data_own (xs : List PyData) : (RX.own xs).data = .list xs := rfl
def toSp (K : PySem.W.Frag) (n : Nat) (p : VSp) : Sp := fun vs H Q _ => vs.length = n ∧ ∃ (ex : Option Addr) (H0 : Hp) (rs : List R) (Φ : RX → Prop), Wf ⟨K, ex, H, H0⟩ H0 H ∧ RRas K ex H0 vs rs ∧ p rs Φ ∧
  ∀ H0' H' v r, Wf ⟨K, ex, H, H0⟩ H0' H' → RXR ⟨K, ex, H, H0⟩ H0' H' v r → Φ r → Q v H'
theorem Wf.inner (w : Wf C H0 H) : Wf ⟨C.K, C.ex, H, H0⟩ H0 H := ⟨w.sub, fun _ _ _ e => e, Same.refl _, fun _ _ e => .inl e, w.dr⟩
theorem Go.outer (w : Wf C H0 H) (g : Wf ⟨C.K, C.ex, H, H0⟩ H0' H') : Go C H0 H H0' H' := by
  refine ⟨⟨g.sub, fun b o n e => g.kp b o n (w.kp b o n e), w.fz.trans g.fz, fun b o e => ?_, g.dr⟩, g.fz, g.kp, fun b o e => ?_⟩
  · rcases g.nw b o e with z | z
    · exact w.nw b o z
    · cases q : C.He b with
      | none => exact .inr rfl
      | some y =>
        by_cases n : C.ex = some b
        · obtain ⟨_, _, _, _, _, _, _, k, _⟩ := g.dr b n
          rw [e] at k; cases k
        · have := w.kp b y n q
          have z : H b = none := z
          rw [this] at z; cases z
  · exact g.nw b o e
@[simp] def dCall (p : VSp) (ds : DR) : DE := fun δ Φ => ds δ fun rs => p rs fun r => Φ r.data
theorem sm_call {n : Nat} {p : VSp} {E : XK} (hp : ∀ rs Φ, p rs Φ → rs.length = n) (ha : SmQ C tas dqs) : Sm C f (tCall (toSp C.K n p) [] E tas) (dCall p dqs) := fun σ δ H0 H Φ Q s w q =>
  ha σ δ H0 H _ _ s w fun H01 H1 vs rs g1 r1 w1 => by
    show toSp C.K n p (vs ++ []) H1 Q E
    rw [List.append_nil]
    refine ⟨by rw [r1.length]; exact hp _ _ w1, C.ex, H01, rs, _, g1.wf.inner, r1, w1, fun H02 H2 v r g2 h2 p2 => ?_⟩
    have g3 := Go.outer g1.wf g2
    cases r with
    | d x => exact q _ _ _ _ (g1.trans g3) (Rp.mono g3.wf.to h2) p2
    | own xs =>
      obtain ⟨a, us, rfl, k1, k2, k3, k4, k5⟩ := h2
      have g4 := Go.frz s.toWf (g1.trans g3) (g1.fresh k2) k1 k4
      exact q _ _ _ _ g4 (Rp.mono g4.wf.to (.lst upd_same (k5.mono (Go.same_new k1)))) p2
@[simp] def oCall (p : VSp) (ds : DR) : DO := fun δ Φ => ds δ fun rs => p rs fun r => ∃ xs, r = .own xs ∧ Φ xs
theorem smo_call {n : Nat} {p : VSp} {E : XK} (hp : ∀ rs Φ, p rs Φ → rs.length = n) (ha : SmQ C tas dqs) : SmO C (tCall (toSp C.K n p) [] E tas) (oCall p dqs) := fun σ δ H0 H Φ Q s w q =>
  ha σ δ H0 H _ _ s w fun H01 H1 vs rs g1 r1 w1 => by
    show toSp C.K n p (vs ++ []) H1 Q E
    rw [List.append_nil]
    refine ⟨by rw [r1.length]; exact hp _ _ w1, C.ex, H01, rs, _, g1.wf.inner, r1, w1, fun H02 H2 v r g2 h2 p2 => ?_⟩
    have g3 := Go.outer g1.wf g2
    obtain ⟨xs, rfl, p2⟩ := p2
    obtain ⟨a, us, rfl, k1, k2, k3, k4, k5⟩ := h2
    exact q _ _ _ _ _ (g1.trans g3) (g1.fresh k2) k1 k4 k5 p2

/-! ### what is walked -/
structure Wk (C : Ctx) (J : It) (H0 : Hp) (xs : List PyData) : Prop where
  stop : ∀ (H0' H' : Hp) (i : Nat), Same H0 H0' → Wf C H0' H' → xs.length ≤ i → J.stop i H'
  go : ∀ (H0' H' : Hp) (i : Nat), Same H0 H0' → Wf C H0' H' → i < xs.length → J.go i H'
  yld : ∀ (H0' H' : Hp) (i : Nat) (v : V) (H'' : Hp), Same H0 H0' → Wf C H0' H' → i < xs.length → J.yld i H' v H'' → ∃ H0'' y, Go C H0' H' H0'' H'' ∧ xs[i]? = some y ∧ Rp C.K H0'' v y
abbrev DI := Dl → (List PyData → Prop) → Prop
def SmI (C : Ctx) (ti : TI) (di : DI) : Prop := ∀ (σ : L2.St) (δ : Dl) (H0 H : Hp) (Φ : List PyData → Prop) (R : It → Hp → Prop), St C H0 H σ δ → di δ Φ →
  (∀ H0' H' J xs, Go C H0 H H0' H' → Wk C J H0' xs → Φ xs → R J H') → ti σ H R
theorem SqL.len_inj {K : PySem.W.Frag} {H : Hp} {a : Addr} {xs ys : List V} (h : H a = some (.lst xs)) (k : H a = some (.lst ys)) : xs = ys := by
  rw [h] at k; cases k; rfl
@[simp] def iL (da : DE) : DI := fun δ Φ => da δ fun x => ∃ xs, x = .list xs ∧ Φ xs
theorem get_lt {α : Type} {xs : List α} {i : Nat} (h : i < xs.length) : ∃ y, xs[i]? = some y := ⟨xs[i], List.getElem?_eq_getElem h⟩
theorem wk_list {a : Addr} {us : List V} {xs : List PyData} (h : H0 a = some (.lst us)) (r : RpA C.K H0 us xs) : Wk C (Itl C.K a) H0 xs := by
  refine ⟨fun H0' H' i e w hi => ⟨us, SqL.of (w.sub _ _ (e _ _ h)), by rw [r.length]; exact hi⟩, fun H0' H' i e w hi => ?_, fun H0' H' i v H'' e w hi y => ?_⟩
  · obtain ⟨y, hy⟩ := get_lt hi
    obtain ⟨v, h1, h2⟩ := r.get hy
    exact ⟨us, v, SqL.of (w.sub _ _ (e _ _ h)), h1⟩
  · obtain ⟨rfl, y⟩ := y
    obtain ⟨z, hz⟩ := get_lt hi
    obtain ⟨u, h1, h2⟩ := r.get hz
    have := y us (SqL.of (w.sub _ _ (e _ _ h)))
    rw [h1] at this
    cases this
    exact ⟨H0', z, .refl w, hz, h2.mono e⟩
theorem smi_list (ha : Sm C true ta da) : SmI C (iList C.K ta) (iL da) := fun σ δ H0 H Φ R s w q =>
  ha σ δ H0 H _ _ s w fun H01 H1 v x g1 r1 ⟨xs, e, p⟩ => by
    subst e
    cases r1 with
    | @lst a us _ h r => exact ⟨a, rfl, ⟨us, SqL.of (g1.wf.sub _ _ h)⟩, q _ _ _ _ g1 (wk_list h r) p⟩
/-- the script is walked -/
@[simp] def iScr (i : Nat) : DI := fun δ Φ => ∃ ns : List Int, δ[i]? = some (some (.scr ns)) ∧ Φ (ns.map .int)
theorem smi_scr (i : Nat) : SmI C (iList C.K (tVar i)) (iScr i) := fun σ δ H0 H Φ R s ⟨ns, e, w⟩ q => by
  obtain ⟨v, e1, a, rfl, hq⟩ := s.sl i _ e
  refine ⟨_, e1, a, rfl, ⟨_, s.toWf.sub.seq hq⟩, q H0 H _ _ (.refl s.toWf) ⟨fun H0' H' k e w hk => ?_, fun H0' H' k e w hk => ?_, fun H0' H' k v H'' e w hk y => ?_⟩ w⟩
  · exact ⟨_, w.sub.seq (e.seq hq), by simpa using hk⟩
  · rw [List.length_map] at hk
    exact ⟨_, .int ns[k], w.sub.seq (e.seq hq), by rw [List.getElem?_map, List.getElem?_eq_getElem hk]; rfl⟩
  · rw [List.length_map] at hk
    obtain ⟨rfl, y⟩ := y
    have := y _ (w.sub.seq (e.seq hq))
    rw [List.getElem?_map, List.getElem?_eq_getElem hk] at this
    cases this
    exact ⟨H0', .int ns[k], .refl w, by rw [List.getElem?_map, List.getElem?_eq_getElem hk]; rfl, .int _⟩
@[simp] def iT (da : DE) : DI := fun δ Φ => da δ fun x => ∃ xs, x = .tuple xs ∧ Φ xs
theorem wk_tup {a : Addr} {us : List V} {xs : List PyData} (h : SqT C.K H0 a us) (r : RpA C.K H0 us xs) : Wk C (Itt C.K a) H0 xs := by
  refine ⟨fun H0' H' i e w hi => ⟨us, same_t w.sub (same_t e h), by rw [r.length]; exact hi⟩, fun H0' H' i e w hi => ?_, fun H0' H' i v H'' e w hi y => ?_⟩
  · obtain ⟨y, hy⟩ := get_lt hi
    obtain ⟨v, h1, h2⟩ := r.get hy
    exact ⟨us, v, same_t w.sub (same_t e h), h1⟩
  · obtain ⟨rfl, y⟩ := y
    obtain ⟨z, hz⟩ := get_lt hi
    obtain ⟨u, h1, h2⟩ := r.get hz
    have := y us (same_t w.sub (same_t e h))
    rw [h1] at this
    cases this
    exact ⟨H0', z, .refl w, hz, h2.mono e⟩
theorem smi_tup (ha : Sm C true ta da) : SmI C (iTup C.K ta) (iT da) := fun σ δ H0 H Φ R s w q =>
  ha σ δ H0 H _ _ s w fun H01 H1 v x g1 r1 ⟨xs, e, p⟩ => by
    subst e
    cases r1 with
    | @tup a us _ h r => exact ⟨a, rfl, ⟨us, same_t g1.wf.sub h⟩, q _ _ _ _ g1 (wk_tup h r) p⟩
def rng (lo : Int) (n : Nat) : List PyData := (List.range n).map fun (k : Nat) => PyData.int (lo + (k : Int))
theorem rng_len (lo : Int) (n : Nat) : (rng lo n).length = n := by simp [rng]
theorem rng_get {lo : Int} {n i : Nat} {y : PyData} (h : (rng lo n)[i]? = some y) : i < n ∧ y = .int (lo + (i : Int)) := by
  unfold rng at h
  rw [List.getElem?_map] at h
  cases q : (List.range n)[i]? with
  | none => rw [q] at h; simp at h
  | some k =>
    rw [q] at h
    obtain ⟨a, b⟩ := List.getElem?_eq_some_iff.mp q
    simp at a b h
    subst b
    exact ⟨a, h.symm⟩
theorem rng_at {lo : Int} {n i : Nat} (h : i < n) : (rng lo n)[i]? = some (.int (lo + (i : Int))) := by
  unfold rng
  rw [List.getElem?_map, List.getElem?_range h]
  rfl
theorem wk_rng (lo : Int) (n : Nat) : Wk C (Itr lo n) H0 (rng lo n) := by
  refine ⟨fun H0' H' i e w hi => by rw [rng_len] at hi; exact hi, fun H0' H' i e w hi => by rw [rng_len] at hi; exact hi, fun H0' H' i v H'' e w hi y => ?_⟩
  rw [rng_len] at hi
  obtain ⟨rfl, rfl⟩ := y
  exact ⟨H0', _, .refl w, rng_at hi, .int _⟩
@[simp] def iR1 (da : DE) : DI := fun δ Φ => da δ fun x => ∃ j, x = .int j ∧ -(2 ^ 62) ≤ j ∧ j < 2 ^ 62 ∧ Φ (rng 0 j.toNat)
theorem smi_rng1 (ha : Sm C f1 ta da) : SmI C (iRng1 (tCons ta tNil)) (iR1 da) := fun σ δ H0 H Φ R s w q =>
  ha σ δ H0 H _ _ s w fun H01 H1 v x g1 r1 ⟨j, e, h1, h2, p⟩ => by
    subst e
    cases r1
    exact ⟨j, rfl, h1, h2, q _ _ _ _ g1 (wk_rng _ _) p⟩
@[simp] def iR2 (da db : DE) : DI := fun δ Φ => da δ fun x => db δ fun y => ∃ i j, x = .int i ∧ y = .int j ∧ (-(2 ^ 62) ≤ i ∧ i < 2 ^ 62 ∧ -(2 ^ 62) ≤ j ∧ j < 2 ^ 62) ∧ Φ (rng i (j - i).toNat)
theorem smi_rng2 (ha : Sm C f1 ta da) (hb : Sm C f2 tb db) : SmI C (iRng2 (tCons ta (tCons tb tNil))) (iR2 da db) := fun σ δ H0 H Φ R s w q =>
  ha σ δ H0 H _ _ s w fun H01 H1 v x g1 r1 w1 => hb σ δ H01 H1 _ _ (s.go g1) w1 fun H02 H2 u y g2 r2 ⟨i, j, e1, e2, h, p⟩ => by
    subst e1 e2
    cases r1
    cases r2
    exact ⟨i, j, rfl, h, q _ _ _ _ (g1.trans g2) (wk_rng _ _) p⟩
@[simp] def iRv (da : DE) : DI := fun δ Φ => da δ fun x => ∃ xs, x = .list xs ∧ Φ xs.reverse
theorem smi_rev (ha : Sm C true ta da) : SmI C (iRev C.K (tCons ta tNil)) (iRv da) := fun σ δ H0 H Φ R s w q =>
  ha σ δ H0 H _ _ s w fun H01 H1 v x g1 r1 ⟨xs, e, p⟩ => by
    subst e
    cases r1 with
    | @lst a us _ h r =>
      refine ⟨a, us, rfl, SqL.of (g1.wf.sub _ _ h), q _ _ _ _ g1 ⟨fun H0' H' i e w hi => ?_, fun H0' H' i e w hi => ?_, fun H0' H' i v H'' e w hi y => ?_⟩ p⟩
      · rw [List.length_reverse] at hi
        show us.length ≤ i
        rw [r.length]; exact hi
      · rw [List.length_reverse] at hi
        obtain ⟨y, hy⟩ := get_lt (show us.length - 1 - i < us.length by rw [r.length]; omega)
        exact ⟨by rw [r.length]; exact hi, us, y, SqL.of (w.sub _ _ (e _ _ h)), hy⟩
      · rw [List.length_reverse] at hi
        obtain ⟨rfl, y⟩ := y
        have y := y us (SqL.of (w.sub _ _ (e _ _ h)))
        obtain ⟨z, hz, rz⟩ := r.get' y
        refine ⟨H0', z, .refl w, ?_, rz.mono e⟩
        rw [List.getElem?_reverse hi, ← r.length]
        exact hz
/-- pairs (number, item) -/
def enumD (xs : List PyData) : List PyData := (List.range xs.length).zipWith (fun (i : Nat) (x : PyData) => PyData.tuple [.int (i : Int), x]) xs
theorem enumD_len (xs : List PyData) : (enumD xs).length = xs.length := by simp [enumD]
theorem enumD_get {xs : List PyData} {i : Nat} {x : PyData} (h : xs[i]? = some x) : (enumD xs)[i]? = some (.tuple [.int (i : Int), x]) := by
  have hi := (List.getElem?_eq_some_iff.mp h).1
  unfold enumD
  rw [List.getElem?_zipWith, List.getElem?_range hi, h]
@[simp] def iEn (da : DE) : DI := fun δ Φ => da δ fun x => ∃ xs, x = .list xs ∧ Φ (enumD xs)
theorem tup_new {p : Addr} {us : List V} {ys : List PyData} (w : Wf C H0 H) (hp : H p = none) (r : RpA C.K H0 us ys) : ∃ H0', Go C H0 H H0' (upd H p (.tup us)) ∧ Rp C.K H0' (.ref p) (.tuple ys) :=
  ⟨_, Go.new w hp, .tup (SqT.of upd_same) (r.mono (Go.same_new (w.none hp)))⟩
theorem smi_enum (ha : Sm C true ta da) : SmI C (iEnum C.K (tCons ta tNil)) (iEn da) := fun σ δ H0 H Φ R s w q =>
  ha σ δ H0 H _ _ s w fun H01 H1 v x g1 r1 ⟨xs, e, p⟩ => by
    subst e
    cases r1 with
    | @lst a us _ h r =>
      refine ⟨a, us, rfl, SqL.of (g1.wf.sub _ _ h), q _ _ _ _ g1 ⟨fun H0' H' i e w hi => ?_, fun H0' H' i e w hi => ?_, fun H0' H' i v H'' e w hi y => ?_⟩ p⟩
      · rw [enumD_len] at hi
        exact ⟨us, SqL.of (w.sub _ _ (e _ _ h)), by rw [r.length]; exact hi⟩
      · rw [enumD_len] at hi
        obtain ⟨y, hy⟩ := get_lt hi
        obtain ⟨v, h1, h2⟩ := r.get hy
        exact ⟨us, v, SqL.of (w.sub _ _ (e _ _ h)), h1⟩
      · rw [enumD_len] at hi
        obtain ⟨T, z, rfl, hT, rfl, y⟩ := y
        have y := y us (SqL.of (w.sub _ _ (e _ _ h)))
        obtain ⟨d, hd, rd⟩ := r.get' y
        obtain ⟨H0'', g, r2⟩ := tup_new w hT (.cons (.int (i : Int)) (.cons (rd.mono e) .nil))
        exact ⟨H0'', _, g, enumD_get hd, r2⟩
def zipD (xs ys : List PyData) : List PyData := xs.zipWith (fun x y => .tuple [x, y]) ys
@[simp] def iZp (da db : DE) : DI := fun δ Φ => da δ fun x => db δ fun y => ∃ xs ys, x = .list xs ∧ y = .list ys ∧ Φ (zipD xs ys)
theorem smi_zip (ha : Sm C true ta da) (hb : Sm C true tb db) : SmI C (iZip C.K (tCons ta (tCons tb tNil))) (iZp da db) := fun σ δ H0 H Φ R s w q =>
  ha σ δ H0 H _ _ s w fun H01 H1 v x g1 r1 w1 => hb σ δ H01 H1 _ _ (s.go g1) w1 fun H02 H2 u y g2 r2 ⟨xs, ys, e1, e2, p⟩ => by
    subst e1 e2
    have r3 := r1.mono g2.fz
    cases r3 with
    | @lst a us _ h r =>
      cases r2 with
      | @lst b ws _ h' r' =>
        refine ⟨a, b, us, ws, rfl, SqL.of (g2.wf.sub _ _ h), SqL.of (g2.wf.sub _ _ h'), q _ _ _ _ (g1.trans g2) ⟨fun H0' H' i e w hi => ?_, fun H0' H' i e w hi => ?_, fun H0' H' i v H'' e w hi y => ?_⟩ p⟩
        · unfold zipD at hi
          rw [List.length_zipWith] at hi
          refine ⟨us, ws, SqL.of (w.sub _ _ (e _ _ h)), SqL.of (w.sub _ _ (e _ _ h')), ?_⟩
          rw [r.length, r'.length]
          omega
        · unfold zipD at hi
          rw [List.length_zipWith] at hi
          obtain ⟨y1, hy1⟩ := get_lt (show i < xs.length by omega)
          obtain ⟨v1, h1, _⟩ := r.get hy1
          obtain ⟨y2, hy2⟩ := get_lt (show i < ys.length by omega)
          obtain ⟨v2, h2, _⟩ := r'.get hy2
          exact ⟨us, ws, v1, v2, SqL.of (w.sub _ _ (e _ _ h)), SqL.of (w.sub _ _ (e _ _ h')), h1, h2⟩
        · obtain ⟨T, x1, x2, rfl, hT, rfl, y1, y2⟩ := y
          have y1 := y1 us (SqL.of (w.sub _ _ (e _ _ h)))
          have y2 := y2 ws (SqL.of (w.sub _ _ (e _ _ h')))
          obtain ⟨d1, hd1, rd1⟩ := r.get' y1
          obtain ⟨d2, hd2, rd2⟩ := r'.get' y2
          obtain ⟨H0'', g, r2⟩ := tup_new w hT (.cons (rd1.mono e) (.cons (Rp.mono e rd2) .nil))
          refine ⟨H0'', _, g, ?_, r2⟩
          unfold zipD
          rw [List.getElem?_zipWith, hd1, hd2]
/-- the signs of a text -/
def signsD (s : Str) : List PyData := s.cps.toList.map fun c => .str ⟨#[c]⟩
@[simp] def iS (da : DE) : DI := fun δ Φ => da δ fun x => ∃ s, x = .str s ∧ Φ (signsD s)
theorem smi_str (ha : Sm C f1 ta da) : SmI C (iStr ta) (iS da) := fun σ δ H0 H Φ R s w q =>
  ha σ δ H0 H _ _ s w fun H01 H1 v x g1 r1 ⟨z, e, p⟩ => by
    subst e
    cases r1
    refine ⟨z, rfl, q _ _ _ _ g1 ⟨fun H0' H' i e w hi => ?_, fun H0' H' i e w hi => ?_, fun H0' H' i v H'' e w hi y => ?_⟩ p⟩
    · show z.cps.size ≤ i
      simpa [signsD] using hi
    · show i < z.cps.size
      simpa [signsD] using hi
    · obtain ⟨rfl, c, hc, rfl⟩ := y
      refine ⟨H0', _, .refl w, ?_, .str _⟩
      unfold signsD
      rw [List.getElem?_map, Array.getElem?_toList, hc]
      rfl
end

/-! ### statements -/
structure DEnds where
  nx : Dl → Prop
  rt : RX → Prop
  bk : Dl → Prop := fun _ => False
  ct : Dl → Prop := fun _ => False
abbrev DS := DEnds → Dl → Prop
structure EndS (C : Ctx) (H0 : Hp) (E : DEnds) (D : Ends) : Prop where
  nx : ∀ (H0' H' : Hp) (σ : L2.St) (δ : Dl), Same H0 H0' → St C H0' H' σ δ → E.nx δ → D.nx σ H'
  rt : ∀ (H0' H' : Hp) (v : V) (r : RX), Same H0 H0' → Wf C H0' H' → RXR C H0' H' v r → E.rt r → D.rt v H'
  bk : ∀ (H0' H' : Hp) (σ : L2.St) (δ : Dl), Same H0 H0' → St C H0' H' σ δ → E.bk δ → D.bk σ H'
  ct : ∀ (H0' H' : Hp) (σ : L2.St) (δ : Dl), Same H0 H0' → St C H0' H' σ δ → E.ct δ → D.ct σ H'
def SmS (C : Ctx) (ts : TS) (ds : DS) : Prop := ∀ (σ : L2.St) (δ : Dl) (H0 H : Hp) (E : DEnds) (D : Ends), St C H0 H σ δ → ds E δ → EndS C H0 E D → ts D σ H
abbrev DG := PyData → Dl → (Dl → Prop) → Prop
abbrev DGs := List PyData → Dl → (Dl → Prop) → Prop
def SmG (C : Ctx) (tg : TG) (dg : DG) : Prop := ∀ (v : V) (x : PyData) (σ : L2.St) (δ : Dl) (H0 H : Hp) (Ψ : Dl → Prop) (Q : L2.St → Hp → Prop), St C H0 H σ δ → Rp C.K H0 v x → dg x δ Ψ →
  (∀ σ' δ', St C H0 H σ' δ' → Ψ δ' → Q σ' H) → tg v σ H Q
def SmGs (C : Ctx) (tg : TGs) (dg : DGs) : Prop := ∀ (vs : List V) (xs : List PyData) (σ : L2.St) (δ : Dl) (H0 H : Hp) (Ψ : Dl → Prop) (Q : L2.St → Hp → Prop), St C H0 H σ δ → RpA C.K H0 vs xs → dg xs δ Ψ →
  (∀ σ' δ', St C H0 H σ' δ' → Ψ δ' → Q σ' H) → tg vs σ H Q
section
variable {C : Ctx} {H0 H H0' H' H0'' H'' : Hp} {σ : L2.St} {δ : Dl} {v : V} {x : PyData} {f : Bool}
variable {te ta tb tc : TE} {de da db dc : DE} {tt tu : TT} {dt du : DT} {tas : TA} {das : DA} {f1 f2 : Bool} {ts tv : TS} {ds dv : DS} {E : DEnds} {D : Ends} {o : DO} {g : TG} {dg : DG} {gs : TGs} {dgs : DGs} {ti : TI} {di : DI}
theorem EndS.mono (h : EndS C H0 E D) (e : Same H0 H0') : EndS C H0' E D :=
  ⟨fun a b c d q => h.nx a b c d (e.trans q), fun a b c d q => h.rt a b c d (e.trans q), fun a b c d q => h.bk a b c d (e.trans q), fun a b c d q => h.ct a b c d (e.trans q)⟩
@[simp] def dgName (i : Nat) : DG := fun x δ Ψ => Ψ (δ.set i (some (.d x)))
theorem smg_name (i : Nat) : SmG C (gName i) (dgName i) := fun v x σ δ H0 H Ψ Q s r w q => q _ _ (s.set_d i r) w
@[simp] def dgNil : DGs := fun xs δ Ψ => xs = [] ∧ Ψ δ
@[simp] def dgCons (dg : DG) (dgs : DGs) : DGs := fun xs δ Ψ => ∃ y ys, xs = y :: ys ∧ dg y δ fun δ' => dgs ys δ' Ψ
theorem smg_nil : SmGs C gNil dgNil := fun vs xs σ δ H0 H Ψ Q s r ⟨e, w⟩ q => by
  subst e
  cases r
  exact ⟨rfl, q _ _ s w⟩
theorem smg_cons (h1 : SmG C g dg) (h2 : SmGs C gs dgs) : SmGs C (gCons g gs) (dgCons dg dgs) := fun vs xs σ δ H0 H Ψ Q s r ⟨y, ys, e, w⟩ q => by
  subst e
  cases r with
  | cons ra rb => exact ⟨_, _, rfl, h1 _ _ σ δ H0 H _ _ s ra w fun σ' δ' s' w' => h2 _ _ σ' δ' H0 H _ _ s' rb w' q⟩
@[simp] def dgTup (n : Nat) (dgs : DGs) : DG := fun x δ Ψ => ∃ xs, x = .tuple xs ∧ xs.length = n ∧ dgs xs δ Ψ
theorem smg_tup {n : Nat} (h : SmGs C gs dgs) : SmG C (gTup C.K n gs) (dgTup n dgs) := fun v x σ δ H0 H Ψ Q s r ⟨xs, e, hn, w⟩ q => by
  subst e
  cases r with
  | @tup a us _ hs r => exact ⟨a, us, rfl, same_t s.toWf.sub hs, by rw [r.length]; exact hn, h _ _ σ δ H0 H _ _ s r w q⟩
@[simp] def dSeq (d1 d2 : DS) : DS := fun E δ => d1 { E with nx := d2 E } δ
theorem sms_seq (h1 : SmS C ts ds) (h2 : SmS C tv dv) : SmS C (tSeq ts tv) (dSeq ds dv) := fun σ δ H0 H E D s w e =>
  h1 σ δ H0 H _ _ s w ⟨fun H0' H' σ' δ' q s' w' => h2 σ' δ' H0' H' E D s' w' (e.mono q), e.rt, e.bk, e.ct⟩
@[simp] def dNext : DS := fun E δ => E.nx δ
theorem sms_next : SmS C tNext dNext := fun σ δ H0 H E D s w e => e.nx H0 H σ δ (Same.refl _) s w
@[simp] def dRet (de : DE) : DS := fun E δ => de δ fun x => E.rt (.d x)
theorem sms_ret (h : Sm C true te de) : SmS C (tRet te) (dRet de) := fun σ δ H0 H E D s w e =>
  h σ δ H0 H _ _ s w fun H0' H' v x g r p => e.rt H0' H' v (.d x) g.fz g.wf r p
@[simp] def dRetO (i : Nat) : DS := fun E δ => ∃ a xs, δ[i]? = some (some (.own a xs)) ∧ E.rt (.own xs)
theorem sms_retO (i : Nat) : SmS C (tRet (tVar i)) (dRetO i) := fun σ δ H0 H E D s ⟨a, xs, h, w⟩ e => by
  obtain ⟨v, e1, rfl, h1, h2, h3, vs, h4, h5⟩ := s.sl i _ h
  exact ⟨_, e1, e.rt H0 H _ (.own xs) (Same.refl _) s.toWf ⟨a, vs, rfl, h1, h2, h3, h4, h5⟩ w⟩
@[simp] def dRetNew (o : DO) : DS := fun E δ => o δ fun xs => E.rt (.own xs)
theorem sms_retNew (h : SmO C te o) : SmS C (tRet te) (dRetNew o) := fun σ δ H0 H E D s w e =>
  h σ δ H0 H _ _ s w fun H0' H' a vs xs g h1 h2 h3 r p => e.rt H0' H' _ (.own xs) g.fz g.wf ⟨a, vs, rfl, h2, (Go.he s.toWf h1).1, (Go.he s.toWf h1).2, h3, r⟩ p
@[simp] def dRetN : DS := fun E δ => E.rt (.d .none)
theorem sms_retN : SmS C tRetN dRetN := fun σ δ H0 H E D s w e => e.rt H0 H _ (.d .none) (Same.refl _) s.toWf .non w
@[simp] def dAsg (de : DE) (dg : DG) : DS := fun E δ => de δ fun x => dg x δ E.nx
theorem sms_asg (h : Sm C true te de) (hg : SmG C g dg) : SmS C (tAsg te g) (dAsg de dg) := fun σ δ H0 H E D s w e =>
  h σ δ H0 H _ _ s w fun H0' H' v x g1 r p => hg v x σ δ H0' H' _ _ (s.go g1) r p fun σ' δ' s' w' => e.nx H0' H' σ' δ' g1.fz s' w'
@[simp] def dSetO (i : Nat) (o : DO) : DS := fun E δ => o δ fun xs => ∀ a, E.nx (δ.set i (some (.own a xs)))
theorem sms_setO (i : Nat) (h : SmO C te o) : SmS C (tAsg te (gName i)) (dSetO i o) := fun σ δ H0 H E D s w e =>
  h σ δ H0 H _ _ s w fun H0' H' a vs xs g1 h1 h2 h3 r p => by
    refine e.nx H0' H' _ _ g1.fz ((s.go g1).set_own i (fun j b ys hj z => ?_) h2 (Go.he s.toWf h1).1 (Go.he s.toWf h1).2 h3 r) (p a)
    subst z
    obtain ⟨v, _, _, _, _, _, vs, k, _⟩ := s.sl j _ hj
    rw [h1] at k; cases k
@[simp] def dIfS (dt : DT) (d1 d2 : DS) : DS := fun E δ => dt δ fun b => if b = true then d1 E δ else d2 E δ
theorem sms_if (ht : SmT C tt dt) (h1 : SmS C ts ds) (h2 : SmS C tv dv) : SmS C (tIfS tt ts tv) (dIfS dt ds dv) := fun σ δ H0 H E D s w e =>
  ht σ δ H0 H _ _ s w fun H01 H1 b g1 w1 => by
    cases b with
    | true => exact iteT (h1 σ δ H01 H1 E D (s.go g1) (by simpa using w1) (e.mono g1.fz))
    | false => exact iteF (h2 σ δ H01 H1 E D (s.go g1) (by simpa using w1) (e.mono g1.fz))
@[simp] def dDrop (de : DE) : DS := fun E δ => de δ fun _ => E.nx δ
theorem sms_drop (h : Sm C f1 te de) : SmS C (tDrop te) (dDrop de) := fun σ δ H0 H E D s w e =>
  h σ δ H0 H _ _ s w fun H0' H' v x g1 r p => e.nx H0' H' σ δ g1.fz (s.go g1) p
/-- xs.append(e), xs an owned list -/
@[simp] def dApp (i : Nat) (de : DE) : DS := fun E δ => ∃ a xs, δ[i]? = some (some (.own a xs)) ∧ de δ fun x => xs.length < sizeLine ∧ E.nx (δ.set i (some (.own a (xs ++ [x]))))
theorem sms_app (i : Nat) (h : Sm C true te de) : SmS C (tDrop (tBM C.K "list" rAppend (tVar i) (tCons te tNil))) (dApp i de) := fun σ δ H0 H E D s ⟨a0, xs0, e0, w⟩ e => by
  obtain ⟨v, e1, rfl, h1, h2, h3, vs, h4, h5⟩ := s.sl i _ e0
  refine ⟨_, e1, .inl ⟨rfl, vs, SqL.of h4⟩, h σ δ H0 H _ _ s w fun H0' H' y x g1 r ⟨hl, p⟩ => ?_⟩
  have s1 := s.go g1
  obtain ⟨v', f1, f2, f3, f4, f5, us, f6, f7⟩ := s1.sl i _ e0
  refine ⟨a0, us, y, rfl, rfl, f6, by rw [f7.length]; exact hl, e.nx H0' _ σ _ g1.fz (s1.write i e0 (f7.snoc r)) p⟩
@[simp] def dAug (i : Nat) (de : DE) (f : Int → Int → Int) : DS := fun E δ => ∃ a, δ[i]? = some (some (.d (.int a))) ∧ de δ fun y => ∃ b, y = .int b ∧ E.nx (δ.set i (some (.d (.int (f a b)))))
theorem sms_aug (i : Nat) {fn : Int → Int → Int} (h : Sm C f1 te de) : SmS C (tAug i te (ipI fn)) (dAug i de fn) := fun σ δ H0 H E D s ⟨a0, e0, w⟩ e => by
  obtain ⟨v, e1, r0⟩ := s.sl i _ e0
  cases r0
  refine ⟨_, e1, h σ δ H0 H _ _ s w fun H0' H' y x g1 r ⟨b, e3, p⟩ => ?_⟩
  subst e3
  cases r
  exact ⟨a0, b, rfl, rfl, e.nx _ _ _ _ g1.fz ((s.go g1).set_d i (.int _)) p⟩
/-- xs[k] = e, xs an owned list -/
@[simp] def dSetI (i : Nat) (de dk : DE) : DS := fun E δ => de δ fun x => ∃ a xs, δ[i]? = some (some (.own a xs)) ∧ dk δ fun y => ∃ k j, y = .int k ∧ ixN xs.length k = some j ∧ E.nx (δ.set i (some (.own a (xs.set j x))))
theorem sms_setI (i : Nat) (h : Sm C true te de) (hk : Sm C f2 tb db) : SmS C (tAsg te (gSub (tVar i) tb rSetL)) (dSetI i de db) := fun σ δ H0 H E D s w e =>
  h σ δ H0 H _ _ s w fun H01 H1 v x g1 r ⟨a, xs, e0, w1⟩ => by
    have s1 := s.go g1
    obtain ⟨v', e1, f2, f3, f4, f5, us, f6, f7⟩ := s1.sl i _ e0
    refine ⟨v', e1, hk σ δ H01 H1 _ _ s1 w1 fun H02 H2 u y g2 r2 ⟨k, j, e3, e4, p⟩ => ?_⟩
    subst e3 f2
    cases r2
    have s2 := s1.go g2
    obtain ⟨v', e1, f2, f3, f4, f5, us, f6, f7⟩ := s2.sl i _ e0
    exact ⟨a, us, k, j, rfl, rfl, f6, by rw [f7.length]; exact e4, e.nx H02 _ σ _ (g1.fz.trans g2.fz) (s2.write i e0 (f7.set (Rp.mono g2.fz r) j)) p⟩
/-- the slot's list stands still from here on -/
@[simp] def dFrz (i : Nat) (d : DS) : DS := fun E δ => ∃ a xs, δ[i]? = some (some (.own a xs)) ∧ d E (δ.set i (some (.d (.list xs))))
theorem sms_frz (i : Nat) (h : SmS C ts ds) : SmS C ts (dFrz i ds) := fun σ δ H0 H E D s ⟨a, xs, h1, w⟩ e => by
  obtain ⟨H0', g, s'⟩ := s.freeze i h1
  exact h σ _ H0' H E D s' w (e.mono g)
@[simp] def dBreak : DS := fun E δ => E.bk δ
theorem sms_break : SmS C tBreak dBreak := fun σ δ H0 H E D s w e => e.bk H0 H σ δ (Same.refl _) s w
@[simp] def dCont : DS := fun E δ => E.ct δ
theorem sms_cont : SmS C tCont dCont := fun σ δ H0 H E D s w e => e.ct H0 H σ δ (Same.refl _) s w
/-- for .. in ..: -/
def dFor (di : DI) (dg : DG) (db : DS) : DS := fun E δ => di δ fun xs => ∃ I : Nat → Dl → Prop, I 0 δ ∧
  (∀ i y δ', xs[i]? = some y → I i δ' → dg y δ' fun δ'' => db { E with nx := I (i + 1), ct := I (i + 1), bk := E.nx } δ'') ∧ ∀ δ', I xs.length δ' → E.nx δ'
theorem sms_for (hi : SmI C ti di) (hg : SmG C g dg) (hb : SmS C ts ds) : SmS C (tFor ti g ts) (dFor di dg ds) := fun σ δ H0 H E D s w e =>
  hi σ δ H0 H _ _ s w fun H01 H1 J xs g1 wk ⟨I, i0, it, ie⟩ => by
    refine ⟨fun i m σ H => m = xs.length - i ∧ i ≤ xs.length ∧ ∃ H0' δ', Same H01 H0' ∧ St C H0' H σ δ' ∧ I i δ', ⟨_, rfl, Nat.zero_le _, H01, δ, Same.refl _, s.go g1, i0⟩, ?_⟩
    rintro i m σ' H' ⟨rfl, hi, H0', δ', gr, s', p⟩
    by_cases hl : i < xs.length
    · refine .inr ⟨wk.go H0' H' i gr s'.toWf hl, fun σ2 H2 => ∃ H0'' δ'', Same H01 H0'' ∧ St C H0'' H2 σ2 δ'' ∧ I (i + 1) δ'', fun σ2 H2 ⟨H02, δ2, h1, h2, h3⟩ => ⟨_, by omega, rfl, hl, H02, δ2, h1, h2, h3⟩, fun v H'' y => ?_⟩
      obtain ⟨H02, z, g2, hz, rz⟩ := wk.yld H0' H' i v H'' gr s'.toWf hl y
      refine hg v z σ' δ' H02 H'' _ _ (s'.go g2) rz (it i z δ' hz p) fun σ2 δ2 s2 w2 => ?_
      refine hb σ2 δ2 H02 H'' _ _ s2 w2 ⟨fun H03 H3 σ3 δ3 e3 s3 p3 => ⟨H03, δ3, (gr.trans g2.fz).trans e3, s3, p3⟩, fun H03 H3 v3 r3 e3 w3 x3 p3 => e.rt H03 H3 v3 r3 (((g1.fz.trans gr).trans g2.fz).trans e3) w3 x3 p3,
        fun H03 H3 σ3 δ3 e3 s3 p3 => e.nx H03 H3 σ3 δ3 (((g1.fz.trans gr).trans g2.fz).trans e3) s3 p3, fun H03 H3 σ3 δ3 e3 s3 p3 => ⟨H03, δ3, (gr.trans g2.fz).trans e3, s3, p3⟩⟩
    · have hl' : i = xs.length := by omega
      exact .inl ⟨wk.stop H0' H' i gr s'.toWf (by omega), e.nx H0' H' σ' δ' (g1.fz.trans gr) s' (ie δ' (hl' ▸ p))⟩
/-- for .. in an owned list, which the turns leave -/
def dForO (j : Nat) (dg : DG) (db : DS) : DS := fun E δ => ∃ a xs, δ[j]? = some (some (.own a xs)) ∧ ∃ I : Nat → Dl → Prop, I 0 δ ∧
  (∀ i y δ', xs[i]? = some y → I i δ' → δ'[j]? = some (some (.own a xs)) ∧ dg y δ' fun δ'' => db { E with nx := I (i + 1), ct := I (i + 1), bk := E.nx } δ'') ∧ ∀ δ', I xs.length δ' → δ'[j]? = some (some (.own a xs)) ∧ E.nx δ'
theorem sms_forO (j : Nat) (hg : SmG C g dg) (hb : SmS C ts ds) : SmS C (tFor (iList C.K (tVar j)) g ts) (dForO j dg ds) := fun σ δ H0 H E D s ⟨a, xs, e0, I, i0, it, ie⟩ e => by
  obtain ⟨v, e1, rfl, h1, h2, h3, us, h4, h5⟩ := s.sl j _ e0
  refine ⟨_, e1, a, rfl, ⟨us, SqL.of h4⟩, fun i m σ H => m = xs.length - i ∧ i ≤ xs.length ∧ ∃ H0' δ', Same H0 H0' ∧ St C H0' H σ δ' ∧ I i δ', ⟨_, rfl, Nat.zero_le _, H0, δ, Same.refl _, s, i0⟩, ?_⟩
  rintro i m σ' H' ⟨rfl, hi, H0', δ', gr, s', p⟩
  by_cases hl : i < xs.length
  · obtain ⟨y, hy⟩ := get_lt hl
    obtain ⟨k1, k2⟩ := it i y δ' hy p
    obtain ⟨v', e1', e2', f1, f2, f3, ws, f4, f5⟩ := s'.sl j _ k1
    obtain ⟨u, hu, ru⟩ := f5.get hy
    refine .inr ⟨⟨ws, u, SqL.of f4, hu⟩, fun σ2 H2 => ∃ H0'' δ'', Same H0 H0'' ∧ St C H0'' H2 σ2 δ'' ∧ I (i + 1) δ'', fun σ2 H2 ⟨H02, δ2, h1, h2, h3⟩ => ⟨_, by omega, rfl, hl, H02, δ2, h1, h2, h3⟩, fun v H'' y' => ?_⟩
    obtain ⟨rfl, y'⟩ := y'
    have y' := y' ws (SqL.of f4)
    rw [hu] at y'
    cases y'
    refine hg u y σ' δ' H0' H'' _ _ s' ru k2 fun σ2 δ2 s2 w2 => ?_
    refine hb σ2 δ2 H0' H'' _ _ s2 w2 ⟨fun H03 H3 σ3 δ3 e3 s3 p3 => ⟨H03, δ3, gr.trans e3, s3, p3⟩, fun H03 H3 v3 r3 e3 w3 x3 p3 => e.rt H03 H3 v3 r3 (gr.trans e3) w3 x3 p3,
      fun H03 H3 σ3 δ3 e3 s3 p3 => e.nx H03 H3 σ3 δ3 (gr.trans e3) s3 p3, fun H03 H3 σ3 δ3 e3 s3 p3 => ⟨H03, δ3, gr.trans e3, s3, p3⟩⟩
  · have hl' : i = xs.length := by omega
    obtain ⟨k1, k2⟩ := ie δ' (hl' ▸ p)
    obtain ⟨v', e1', e2', f1, f2, f3, ws, f4, f5⟩ := s'.sl j _ k1
    exact .inl ⟨⟨ws, SqL.of f4, by rw [f5.length]; omega⟩, e.nx H0' H' σ' δ' gr s' k2⟩
def dWhile (dt : DT) (db : DS) : DS := fun E δ => ∃ I : Nat → Dl → Prop, (∃ m, I m δ) ∧ ∀ m δ', I m δ' → dt δ' fun b => if b = true then db { E with nx := fun δ'' => ∃ m', m' < m ∧ I m' δ'', ct := fun δ'' => ∃ m', m' < m ∧ I m' δ'', bk := E.nx } δ' else E.nx δ'
theorem sms_while (ht : SmT C tt dt) (hb : SmS C ts ds) : SmS C (tWhile tt ts) (dWhile dt ds) := fun σ δ H0 H E D s ⟨I, ⟨m0, i0⟩, it⟩ e => by
  refine ⟨fun m σ' H' => ∃ H0' δ', Same H0 H0' ∧ St C H0' H' σ' δ' ∧ I m δ', ⟨m0, H0, δ, Same.refl _, s, i0⟩, ?_⟩
  rintro m σ' H' ⟨H0', δ', gr, s', p⟩
  refine ht σ' δ' H0' H' _ _ s' (it m δ' p) fun H01 H1 b g1 w1 => ?_
  cases b with
  | true =>
    refine iteT ⟨fun σ2 H2 => ∃ m', m' < m ∧ ∃ H0'' δ'', Same H0 H0'' ∧ St C H0'' H2 σ2 δ'' ∧ I m' δ'', fun σ2 H2 h => h, ?_⟩
    refine hb σ' δ' H01 H1 { E with nx := fun δ'' => ∃ m', m' < m ∧ I m' δ'', ct := fun δ'' => ∃ m', m' < m ∧ I m' δ'', bk := E.nx } _ (s'.go g1) (by simpa using w1) ⟨fun H03 H3 σ3 δ3 e3 s3 ⟨m', hm, p3⟩ => ⟨m', hm, H03, δ3, (gr.trans g1.fz).trans e3, s3, p3⟩, fun H03 H3 v3 r3 e3 w3 x3 p3 => e.rt H03 H3 v3 r3 ((gr.trans g1.fz).trans e3) w3 x3 p3,
      fun H03 H3 σ3 δ3 e3 s3 p3 => e.nx H03 H3 σ3 δ3 ((gr.trans g1.fz).trans e3) s3 p3, fun H03 H3 σ3 δ3 e3 s3 ⟨m', hm, p3⟩ => ⟨m', hm, H03, δ3, (gr.trans g1.fz).trans e3, s3, p3⟩⟩
  | false => exact iteF (e.nx H01 H1 σ' δ' (gr.trans g1.fz) (s'.go g1) (by simpa using w1))

/-! ### comprehensions -/
@[simp] def dYes : DT := fun _ Φ => Φ true
theorem smt_yes : SmT C tYes dYes := fun σ δ H0 H Φ Q s w q => q H0 H true (.refl s.toWf) w
def oLc (di : DI) (i : Nat) (dt : DT) (de : DE) : DO := fun δ Φ => di δ fun xs => ∃ I : Nat → List PyData → Prop, I 0 [] ∧
  (∀ k y acc, xs[k]? = some y → I k acc → dt (δ.set i (some (.d y))) fun b => if b = true then de (δ.set i (some (.d y))) fun z => acc.length < sizeLine ∧ I (k + 1) (acc ++ [z]) else I (k + 1) acc) ∧ ∀ acc, I xs.length acc → Φ acc
theorem smo_lc {i : Nat} (hi : SmI C ti di) (ht : SmT C tt dt) (he : Sm C true te de) : SmO C (tLc ti (gName i) tt te [i]) (oLc di i dt de) := fun σ δ H0 H Φ Q s w q =>
  hi σ δ H0 H _ _ s w fun H01 H1 J xs g1 wk ⟨I, i0, it, ie⟩ D hD => by
    have hD0 : H D = none := g1.fresh hD
    refine ⟨fun k m H' => m = xs.length - k ∧ k ≤ xs.length ∧ ∃ H0' us acc, Go C H01 H1 H0' H' ∧ H0' D = none ∧ H' D = some (.lst us) ∧ RpA C.K H0' us acc ∧ I k acc, ⟨_, rfl, Nat.zero_le _, H01, [], [], Go.free g1.wf hD, g1.wf.none hD, upd_same, .nil, i0⟩, ?_⟩
    rintro k m H' ⟨rfl, hk, H0', us, acc, g2, hn, hl, r, p⟩
    have nex : C.ex ≠ some D := (Go.he g1.wf hD).2
    by_cases hlt : k < xs.length
    · refine .inr ⟨wk.go H0' H' k g2.fz g2.wf hlt, fun H3 => ∃ H0' us acc, Go C H01 H1 H0' H3 ∧ H0' D = none ∧ H3 D = some (.lst us) ∧ RpA C.K H0' us acc ∧ I (k + 1) acc, fun H3 h => ⟨_, by omega, rfl, hlt, h⟩, fun v H'' y => ?_⟩
      obtain ⟨H02, z, g3, hz, rz⟩ := wk.yld H0' H' k v H'' g2.fz g2.wf hlt y
      have g23 := g2.trans g3
      have keep : ∀ {A B : Hp}, Go C H02 H'' A B → A D = none ∧ B D = some (.lst us) := fun {A B} gg => by
        have h1 : B D = some (.lst us) := gg.kp D _ nex (g3.kp D _ nex hl)
        refine ⟨?_, h1⟩
        cases e : A D with
        | none => rfl
        | some u =>
          rcases (g3.trans gg).nw D u e with h2 | h2
          · rw [hn] at h2; cases h2
          · rw [hl] at h2; cases h2
      show wipe ((wipe σ [i]).set i (some v)) [i] = wipe σ [i] ∧ _
      refine ⟨by simp [wipe], ?_⟩
      have s2 : St C H02 H'' ((wipe σ [i]).set i (some v)) (δ.set i (some (.d z))) := by
        have := ((s.go ((g1.trans g2).trans g3)).none i).set_d i rz
        rw [List.set_set] at this
        rw [List.set_set] at this
        show St C H02 H'' ((σ.set i none).set i (some v)) (δ.set i (some (.d z)))
        rw [List.set_set]
        exact this
      refine ht _ _ H02 H'' _ _ s2 (it k z acc hz p) fun H04 H4 b g4 w4 => ?_
      cases b with
      | false => exact iteF ⟨H04, us, acc, g23.trans g4, (keep g4).1, (keep g4).2, r.mono (g3.fz.trans g4.fz), by simpa using w4⟩
      | true =>
        refine iteT (he _ _ H04 H4 (fun z => acc.length < sizeLine ∧ I (k + 1) (acc ++ [z])) _ (s2.go g4) (by simpa using w4) fun H05 H5 y' z' g5 r5 ⟨w5, p5⟩ => ?_)
        have k5 := keep (g4.trans g5)
        refine ⟨us, k5.2, by rw [r.length]; exact w5, H05, us ++ [y'], acc ++ [z'], ?_, k5.1, upd_same, (r.mono (g3.fz.trans (g4.fz.trans g5.fz))).snoc r5, p5⟩
        -- the list D is written: it is not frozen, and new since H1
        have gg := (g23.trans g4).trans g5
        refine ⟨⟨fun b u e => ?_, fun b u n e => ?_, gg.wf.fz, gg.wf.nw, fun c e => ?_⟩, gg.fz, fun b u n e => ?_, gg.nw⟩
        · rw [upd_ne (fun z => by rw [z, k5.1] at e; cases e)]; exact gg.wf.sub b u e
        · rw [upd_ne (fun z => by rw [z, (Go.he g1.wf hD).1] at e; cases e)]; exact gg.wf.kp b u n e
        · obtain ⟨c', i', v', s', cells, q1, q2, q3, q4⟩ := gg.wf.dr c e
          exact ⟨c', i', v', s', cells, by rw [upd_ne (fun z => nex (by rw [← z]; exact e))]; exact q1, q2, q3, q4⟩
        · rw [upd_ne (fun z => by rw [z, hD] at e; cases e)]; exact gg.kp b u n e
    · have hk' : k = xs.length := by omega
      refine .inl ⟨wk.stop H0' H' k g2.fz g2.wf (by omega), q H0' H' D us acc (g1.trans g2) hD0 hn hl r (ie acc (hk' ▸ p))⟩

/-! ### a def -/
@[simp] def startD (n : Nat) (rs : List R) : Dl := rs.map some ++ List.replicate (n - rs.length) none
theorem fn_ok {P : Program} {w : World} {K : PySem.W.Frag} {mg : Str → Option Value} {base : Heap} {x qual : Str} {st : Stmt} {fa : Addr} {fd : FuncData} {N ps : List Str} {k : Nat} {p : VSp}
    (F : Fun K x qual st fa fd) (S : FnScope N ps (defScope st))
    (hbody : ∀ (cdv : Value) (A : Around) (outer : List Env) (s : Shared) (H : Hp) (E : XK), Room k (A.deeper (PyProof.Rows.envOfC qual (defScope st) s.heap.objs.size fa cdv)) →
      ∃ t, PSs (cxOf CX0 P w K mg base N qual (defScope st) fa cdv A outer s H E).nox (defBody st) t ∧ ∃ d : DS, (∀ (ex : Option Addr) (He Hf : Hp), SmS ⟨K, ex, He, Hf⟩ t d) ∧ ∀ rs Φ, p rs Φ → d { nx := fun _ => Φ (.d .none), rt := Φ } (startD N.length rs)) : FnOk P w K mg base CX0 (k + 1) fa fd ps (toSp K ps.length p) := by
  refine F.ok S (fun vs H Q E h => h.1) (fun cdv A outer s H vs Q E hr h => ?_)
  obtain ⟨t, ht, d, hd, hp⟩ := hbody cdv A outer s H E hr
  obtain ⟨hl, ex, H0, rs, Φ, wf, ra, hsp, q⟩ := h
  refine ⟨t, ht, ?_⟩
  have hlen := ra.length
  refine hd ex H H0 _ (startD N.length rs) H0 H _ _ ⟨wf, ?_, fun i r e => ?_, fun i j a b xs ys n e1 e2 => ?_⟩ (hp rs Φ hsp) ⟨fun H0' H' σ δ g s' w' => ?_, fun H0' H' v r g w' xr p' => q H0' H' v r w' xr p', fun _ _ _ _ _ _ h => h.elim, fun _ _ _ _ _ _ h => h.elim⟩
  · simp [L2.start, startD, hlen]
  · unfold startD at e
    by_cases hi : i < rs.length
    · rw [List.getElem?_append_left (by simpa using hi), List.getElem?_map] at e
      cases e1 : rs[i]? with
      | none => rw [e1] at e; simp at e
      | some r' =>
        rw [e1] at e
        simp at e
        subst e
        obtain ⟨v, h1, h2⟩ := ra.get e1
        refine ⟨v, ?_, ?_⟩
        · unfold L2.start
          rw [List.getElem?_append_left (by rw [List.length_map, hlen]; exact hi), List.getElem?_map, h1]
          rfl
        · cases r' with
          | d x => exact h2
          | own a xs => exact h2.elim
          | drw => exact h2
          | raw u => exact h2
          | scr ns => exact h2
    · rw [List.getElem?_append_right (by simpa using hi)] at e
      rw [List.getElem?_replicate] at e
      split at e <;> simp at e
  · exfalso
    have f : ∀ {i : Nat} {a : Addr} {xs : List PyData}, (startD N.length rs)[i]? = some (some (R.own a xs)) → False := fun {i a xs} e => by
      unfold startD at e
      by_cases hi : i < rs.length
      · rw [List.getElem?_append_left (by simpa using hi), List.getElem?_map] at e
        cases e1 : rs[i]? with
        | none => rw [e1] at e; simp at e
        | some r' =>
          rw [e1] at e
          simp at e
          subst e
          obtain ⟨v, h1, h2⟩ := ra.get e1
          exact h2
      · rw [List.getElem?_append_right (by simpa using hi)] at e
        rw [List.getElem?_replicate] at e
        split at e <;> simp at e
    exact f e1
  · exact q H0' H' .non (.d .none) s'.toWf .non w'

/-! ### the row of numbers that a law draws from -/
/-- how many a draw may be of -/
def Tk (m : Int) : Prop := 0 < m ∧ m.natAbs < 2 ^ 8000
theorem tk_of {m : Int} (h : 0 < m) (h2 : m ≤ 1180591620717411303424) : Tk m := ⟨h, Nat.lt_of_lt_of_le (show m.natAbs < 2 ^ 71 by omega) (Nat.pow_le_pow_right (by decide) (by decide))⟩
@[simp] theorem tk_simp {m : Int} (h : 0 < m) (h2 : m ≤ 1180591620717411303424) : Tk m ↔ True := ⟨fun _ => trivial, fun _ => tk_of h h2⟩
/-- a number below many -/
@[simp] def spTake : VSp := fun rs Φ => ∃ many : Int, rs = [.drw, .d (.int many)] ∧ Tk many ∧ ∀ r : Int, 0 ≤ r → r < many → Φ (.d (.int r))
theorem spTake_len : ∀ rs Φ, spTake rs Φ → rs.length = 2 := fun rs Φ ⟨_, e, _⟩ => by rw [e]; rfl
/-- the row is made -/
def spDraw (K : PySem.W.Frag) : Sp := fun vs H Q _ => ∃ (a : Addr) (ns : List Int), vs = [.ref a] ∧ SqL K H a (ns.map V.int) ∧ ns.length ≤ 63 ∧
  ∀ H' p c (s : Int) (cells : List Int), Same H H' → H' p = some (.lst [.ref c, .int (-1), .int 0, .int s]) → H' c = some (.lst (cells.map V.int)) → c ≠ p → (∀ x ∈ cells, 0 ≤ x) → 0 ≤ s → s < 2147483647 → Q (.ref p) H'
def spLaw (K : PySem.W.Frag) : Sp := fun vs H Q _ => ∃ (a : Addr) (ns : List Int), vs = [.ref a] ∧ SqL K H a (ns.map V.int) ∧ ns.length ≤ 63 ∧ ∀ H', Q (.bl true) H'
/-- the draw's row is written -/
theorem Wf.draw {p c : Addr} {i v s : Int} (w : Wf C H0 H) (e : C.ex = some p) (h : H p = some (.lst [.ref c, .int i, .int v, .int s])) {i' v' s' : Int} (h1 : -1 ≤ i') (h2 : 0 ≤ v') (h3 : 0 ≤ s') (h4 : s' < 2147483647) :
    Wf C H0 (upd H p (.lst [.ref c, .int i', .int v', .int s'])) := by
  obtain ⟨c0, i0, v0, s0, cells, g1, g2, g3, g4, g5⟩ := w.dr p e
  rw [h] at g1
  cases g1
  refine ⟨fun b u q => ?_, fun b u n q => ?_, w.fz, w.nw, fun p' e' => ?_⟩
  · rw [upd_ne (fun z => by rw [z, g3] at q; cases q)]; exact w.sub b u q
  · rw [upd_ne (fun z => by rw [z] at n; exact n e)]; exact w.kp b u n q
  · rw [e] at e'; cases e'
    exact ⟨c, i', v', s', cells, upd_same, g2, g3, g4, h1, h2, h3, h4⟩
/-- the law's own body behind «draw = _law_draw(script)» -/
theorem law_start {K : PySem.W.Frag} {p c : Addr} {s : Int} {cells : List Int} {H' : Hp} (h1 : H' p = some (.lst [.ref c, .int (-1), .int 0, .int s])) (h2 : H' c = some (.lst (cells.map V.int))) (h3 : c ≠ p) (h4 : ∀ x ∈ cells, 0 ≤ x) (h5 : 0 ≤ s) (h6 : s < 2147483647)
    {a : Addr} {n : Nat} {t : TS} {d : DS} (hd : ∀ (ex : Option Addr) (He Hf : Hp), SmS ⟨K, ex, He, Hf⟩ t d) {Q : VK} (hQ : ∀ H', Q (.bl true) H')
    (hp : ∀ raw : V, d { nx := fun _ => False, rt := fun r => r = .d (.bool true) } (some (.raw raw) :: some .drw :: List.replicate n none)) :
    t { nx := fun _ H' => Q .non H', rt := Q } (some (.ref a) :: some (.ref p) :: List.replicate n none) H' := by
  have w : Wf ⟨K, some p, H', fun b => if b = p then none else H' b⟩ (fun b => if b = p then none else H' b) H' := by
    refine ⟨fun b o e => ?_, fun _ _ _ e => e, Same.refl _, fun _ _ e => .inl e, fun q e => ?_⟩
    · split at e
      · cases e
      · exact e
    · cases e
      exact ⟨c, -1, 0, s, cells, h1, by show (if c = p then none else H' c) = _; rw [if_neg h3]; exact h2, if_pos rfl, h4, by omega, by omega, h5, h6⟩
  refine hd (some p) H' (fun b => if b = p then none else H' b) _ _ _ H' _ _ ⟨w, by simp, fun i r e => ?_, fun i j a b xs ys n e1 e2 => ?_⟩ (hp (.ref a)) ⟨fun _ _ _ _ _ _ h => h.elim, fun H0' H'' v r g w' x e => ?_, fun _ _ _ _ _ _ h => h.elim, fun _ _ _ _ _ _ h => h.elim⟩
  · match i with
    | 0 => simp at e; subst e; exact ⟨_, rfl, rfl⟩
    | 1 => simp at e; subst e; exact ⟨_, rfl, p, rfl, rfl⟩
    | i + 2 =>
      rw [List.getElem?_cons_succ, List.getElem?_cons_succ, List.getElem?_replicate] at e
      split at e <;> simp at e
  · match i with
    | 0 => simp at e1
    | 1 => simp at e1
    | i + 2 =>
      rw [List.getElem?_cons_succ, List.getElem?_cons_succ, List.getElem?_replicate] at e1
      split at e1 <;> simp at e1
  · subst e
    cases x
    exact hQ _
end
section
/-- a law that reads its script itself -/
theorem law_plain {K : PySem.W.Frag} {a : Addr} {ns : List Int} {H : Hp} {Q : VK} {n : Nat} {t : TS} {d : DS} (hS : SqL K H a (ns.map V.int)) (k : ∀ H', Q (.bl true) H') (hd : ∀ (ex : Option Addr) (He Hf : Hp), SmS ⟨K, ex, He, Hf⟩ t d)
    (hp : d { nx := fun _ => False, rt := fun r => r = .d (.bool true) } (some (.scr ns) :: List.replicate n none)) : t { nx := fun _ H' => Q .non H', rt := Q } (some (.ref a) :: List.replicate n none) H := by
  refine hd none H H _ _ H H _ _ ⟨⟨Same.refl _, fun _ _ _ e => e, Same.refl _, fun _ _ e => .inl e, fun p e => by cases e⟩, by simp, fun i r e => ?_, fun i j a b xs ys n e1 e2 => ?_⟩ hp ⟨fun _ _ _ _ _ _ h => h.elim, fun H0' H'' v r g w' x e => ?_, fun _ _ _ _ _ _ h => h.elim, fun _ _ _ _ _ _ h => h.elim⟩
  · match i with
    | 0 => simp at e; subst e; exact ⟨_, rfl, a, rfl, hS⟩
    | i + 1 =>
      rw [List.getElem?_cons_succ, List.getElem?_replicate] at e
      split at e <;> simp at e
  · match i with
    | 0 => simp at e1
    | i + 1 =>
      rw [List.getElem?_cons_succ, List.getElem?_replicate] at e1
      split at e1 <;> simp at e1
  · subst e
    cases x
    exact k _
/-- what is never reached -/
@[simp] def dNever : DS := fun _ _ => False
theorem sms_never {C : Ctx} {t : TS} : SmS C t dNever := fun _ _ _ _ _ _ _ h => h.elim
end
/-! ### rules of the hand layer whose words name the written part: said with it -/
section
variable {X : Cx} {K : PySem.W.Frag}
theorem kx_seq (h : X.K = K) : IxR X (rIx K) := by subst h; exact ix_seq
theorem kx_in (h : X.K = K) : OpR X (compareOp .In) (rIn K false) := by subst h; exact op_in_seq
theorem kx_notIn (h : X.K = K) : OpR X (compareOp .NotIn) (rIn K true) := by subst h; exact op_notIn_seq
theorem kx_eqD (h : X.K = K) (hu : X.A.units + 64 < cLine) : OpR X (compareOp .Eq) (rEqD K) := by subst h; exact op_eqD hu
theorem kx_neD (h : X.K = K) (hu : X.A.units + 64 < cLine) : OpR X (compareOp .NotEq) (rNeD K) := by subst h; exact op_neD hu
theorem kx_len (h : X.K = K) : CallR X (.builtin "len") (fun xs H Q => ∃ x n, xs = [x] ∧ LenV K x H n ∧ Q (.int n) H) := by subst h; exact call_len
theorem kx_list (h : X.K = K) : CallR X (.type "list") (fun xs H Q => ∃ p ys, xs = [.ref p] ∧ (SqL K H p ys ∨ SqT K H p ys) ∧ ∀ l, H l = none → Q (.ref l) (upd H l (.lst ys))) := by subst h; exact call_list_of
theorem kx_tuple (h : X.K = K) : CallR X (.type "tuple") (fun xs H Q => ∃ p ys, xs = [.ref p] ∧ ((SqL K H p ys ∧ ∀ l, H l = none → Q (.ref l) (upd H l (.tup ys))) ∨ (SqT K H p ys ∧ Q (.ref p) H))) := by subst h; exact call_tuple_of
theorem kx_isi (h : X.K = K) : CallR X (.builtin "isinstance") (rIsi K) := by subst h; exact call_isi
theorem kpi_list (h : X.K = K) {tg e : Expr} {tl : TE} (he : PE X e tl) : PI X tg e (iList K tl) := by subst h; exact pi_list he
theorem kpi_tup (h : X.K = K) {tg e : Expr} {tl : TE} (he : PE X e tl) : PI X tg e (iTup K tl) := by subst h; exact pi_tup he
end
end VL

/-! Facts about the layer's words. -/
namespace VL
open PySem L2
@[simp] theorem scal_ii (i j : Int) : scal (.int i) (.int j) = true := rfl
@[simp] theorem scal_ss (i j : Str) : scal (.str i) (.str j) = true := rfl
@[simp] theorem scal_bb (i j : Bool) : scal (.bl i) (.bl j) = true := rfl
@[simp] theorem scal_nn : scal .non .non = true := rfl
@[simp] theorem scal_ni (i : Int) : scal .non (.int i) = true := rfl
@[simp] theorem scal_in (i : Int) : scal (.int i) .non = true := rfl
@[simp] theorem scal_si (s : Str) (i : Int) : scal (.str s) (.int i) = true := rfl
@[simp] theorem scal_is (s : Str) (i : Int) : scal (.int i) (.str s) = true := rfl
@[simp] theorem scal_ns (s : Str) : scal .non (.str s) = true := rfl
@[simp] theorem scal_sn (s : Str) : scal (.str s) .non = true := rfl
@[simp] theorem eqv_ii (i j : Int) : PyData.eqv (.int i) (.int j) = (i == j) := by simp [PyData.eqv]
@[simp] theorem eqv_ss (i j : Str) : PyData.eqv (.str i) (.str j) = decide (i = j) := by rw [Bool.eq_iff_iff]; simp [PyData.eqv]
@[simp] theorem own_ex {α β : Type} {a0 : α} {xs0 : β} {P : α → β → Prop} : (∃ a xs, (a0 = a ∧ xs0 = xs) ∧ P a xs) ↔ P a0 xs0 := ⟨fun ⟨_, _, ⟨e1, e2⟩, h⟩ => by subst e1 e2; exact h, fun h => ⟨_, _, ⟨rfl, rfl⟩, h⟩⟩
@[simp] theorem kit_NoneType_tuple : kitB "NoneType" "tuple" = some false := by decide +kernel
@[simp] theorem kit_NoneType_list : kitB "NoneType" "list" = some false := by decide +kernel
@[simp] theorem kit_NoneType_bool : kitB "NoneType" "bool" = some false := by decide +kernel
@[simp] theorem kit_NoneType_int : kitB "NoneType" "int" = some false := by decide +kernel
@[simp] theorem kit_NoneType_str : kitB "NoneType" "str" = some false := by decide +kernel
@[simp] theorem kit_NoneType_dict : kitB "NoneType" "dict" = some false := by decide +kernel
@[simp] theorem kit_bool_tuple : kitB "bool" "tuple" = some false := by decide +kernel
@[simp] theorem kit_bool_list : kitB "bool" "list" = some false := by decide +kernel
@[simp] theorem kit_bool_bool : kitB "bool" "bool" = some true := by decide +kernel
@[simp] theorem kit_bool_int : kitB "bool" "int" = some true := by decide +kernel
@[simp] theorem kit_bool_str : kitB "bool" "str" = some false := by decide +kernel
@[simp] theorem kit_bool_dict : kitB "bool" "dict" = some false := by decide +kernel
@[simp] theorem kit_int_tuple : kitB "int" "tuple" = some false := by decide +kernel
@[simp] theorem kit_int_list : kitB "int" "list" = some false := by decide +kernel
@[simp] theorem kit_int_bool : kitB "int" "bool" = some false := by decide +kernel
@[simp] theorem kit_int_int : kitB "int" "int" = some true := by decide +kernel
@[simp] theorem kit_int_str : kitB "int" "str" = some false := by decide +kernel
@[simp] theorem kit_int_dict : kitB "int" "dict" = some false := by decide +kernel
@[simp] theorem kit_str_tuple : kitB "str" "tuple" = some false := by decide +kernel
@[simp] theorem kit_str_list : kitB "str" "list" = some false := by decide +kernel
@[simp] theorem kit_str_bool : kitB "str" "bool" = some false := by decide +kernel
@[simp] theorem kit_str_int : kitB "str" "int" = some false := by decide +kernel
@[simp] theorem kit_str_str : kitB "str" "str" = some true := by decide +kernel
@[simp] theorem kit_str_dict : kitB "str" "dict" = some false := by decide +kernel
@[simp] theorem kit_list_tuple : kitB "list" "tuple" = some false := by decide +kernel
@[simp] theorem kit_list_list : kitB "list" "list" = some true := by decide +kernel
@[simp] theorem kit_list_bool : kitB "list" "bool" = some false := by decide +kernel
@[simp] theorem kit_list_int : kitB "list" "int" = some false := by decide +kernel
@[simp] theorem kit_list_str : kitB "list" "str" = some false := by decide +kernel
@[simp] theorem kit_list_dict : kitB "list" "dict" = some false := by decide +kernel
@[simp] theorem kit_tuple_tuple : kitB "tuple" "tuple" = some true := by decide +kernel
@[simp] theorem kit_tuple_list : kitB "tuple" "list" = some false := by decide +kernel
@[simp] theorem kit_tuple_bool : kitB "tuple" "bool" = some false := by decide +kernel
@[simp] theorem kit_tuple_int : kitB "tuple" "int" = some false := by decide +kernel
@[simp] theorem kit_tuple_str : kitB "tuple" "str" = some false := by decide +kernel
@[simp] theorem kit_tuple_dict : kitB "tuple" "dict" = some false := by decide +kernel
@[simp] theorem kit_dict_tuple : kitB "dict" "tuple" = some false := by decide +kernel
@[simp] theorem kit_dict_list : kitB "dict" "list" = some false := by decide +kernel
@[simp] theorem kit_dict_bool : kitB "dict" "bool" = some false := by decide +kernel
@[simp] theorem kit_dict_int : kitB "dict" "int" = some false := by decide +kernel
@[simp] theorem kit_dict_str : kitB "dict" "str" = some false := by decide +kernel
@[simp] theorem kit_dict_dict : kitB "dict" "dict" = some true := by decide +kernel
@[simp] theorem at_0 {α : Type} (a : α) (xs : List α) : atI (a :: xs) 0 = some a := by simp [atI, ixN]
@[simp] theorem at_1 {α : Type} (a b : α) (xs : List α) : atI (a :: b :: xs) 1 = some b := by
  have : (1 : Int) < (xs.length : Int) + 1 + 1 := by omega
  simp [atI, ixN, this]
@[simp] theorem at_2 {α : Type} (a b c : α) (xs : List α) : atI (a :: b :: c :: xs) 2 = some c := by
  have : (2 : Int) < (xs.length : Int) + 1 + 1 + 1 := by omega
  simp [atI, ixN, this]
@[simp] theorem at_3 {α : Type} (a b c d : α) (xs : List α) : atI (a :: b :: c :: d :: xs) 3 = some d := by
  have : (3 : Int) < (xs.length : Int) + 1 + 1 + 1 + 1 := by omega
  simp [atI, ixN, this]
@[simp] theorem at_4 {α : Type} (a b c d e : α) (xs : List α) : atI (a :: b :: c :: d :: e :: xs) 4 = some e := by
  have : (4 : Int) < (xs.length : Int) + 1 + 1 + 1 + 1 + 1 := by omega
  simp [atI, ixN, this]
theorem int_at {ns : List Int} {i : Nat} {z : PyData} (h : (ns.map PyData.int)[i]? = some z) : ∃ u, ns[i]? = some u ∧ z = .int u := by
  rw [List.getElem?_map] at h
  cases e : ns[i]? with
  | none => rw [e] at h; cases h
  | some u => rw [e] at h; exact ⟨u, rfl, (Option.some.inj h).symm⟩
theorem seq_by {d1 d2 : DS} {E : DEnds} {δ : Dl} (J : Dl → Prop) (h2 : ∀ δ', J δ' → d2 E δ') (h1 : ∀ N : Dl → Prop, (∀ δ', J δ' → N δ') → d1 { E with nx := N } δ) : dSeq d1 d2 E δ := h1 _ h2
/-- a comprehension over range(n) -/
theorem oLc_n {da : DE} {i : Nat} {de : DE} {δ : Dl} {Φ : List PyData → Prop} {n : Nat} (hn : n < 1000000) (h : ∀ Ψ : PyData → Prop, Ψ (.int n) → da δ Ψ) (P : List PyData → Prop) (h0 : P [])
    (hs : ∀ (k : Nat) (acc : List PyData) (Ψ : PyData → Prop), k < n → acc.length = k → P acc → (∀ z, P (acc ++ [z]) → Ψ z) → de (δ.set i (some (.d (.int k)))) Ψ) (hΦ : ∀ acc, acc.length = n → P acc → Φ acc) : oLc (iR1 da) i dYes de δ Φ := by
  unfold oLc
  refine h _ ⟨n, rfl, by omega, by omega, fun k acc => acc.length = k ∧ P acc, ⟨rfl, h0⟩, fun k y acc hy ha => ?_, fun acc ha => ?_⟩
  · obtain ⟨hk, rfl⟩ := rng_get hy
    have hk : k < n := hk
    unfold dYes
    dsimp only
    rw [if_pos rfl]
    rw [show (0 : Int) + (k : Int) = (k : Int) from Int.zero_add _]
    refine hs k acc _ hk ha.1 ha.2 fun z hz => ⟨?_, ?_, hz⟩
    · rw [ha.1]
      exact Nat.lt_of_lt_of_le (show k < 1000000 by omega) (by decide)
    · rw [List.length_append, ha.1]; rfl
  · rw [rng_len] at ha
    exact hΦ acc ha.1 ha.2
/-- a comprehension over a walked list, its answer a function of the items -/
theorem oLc_map {di : DI} {i : Nat} {de : DE} {δ : Dl} {Φ : List PyData → Prop} {xs : List PyData} (F : PyData → PyData) (hn : xs.length < 1000000) (h : ∀ Ψ : List PyData → Prop, Ψ xs → di δ Ψ)
    (hs : ∀ (k : Nat) (y : PyData) (Ψ : PyData → Prop), xs[k]? = some y → Ψ (F y) → de (δ.set i (some (.d y))) Ψ) (hΦ : Φ (xs.map F)) : oLc di i dYes de δ Φ := by
  unfold oLc
  refine h _ ⟨fun k acc => acc = (xs.take k).map F, by simp, fun k y acc hy ha => ?_, fun acc ha => ?_⟩
  · subst ha
    unfold dYes
    dsimp only
    rw [if_pos rfl]
    have hk := (List.getElem?_eq_some_iff.mp hy).1
    refine hs k y _ hy ⟨?_, ?_⟩
    · rw [List.length_map, List.length_take]
      exact Nat.lt_of_lt_of_le (show min k xs.length < 1000000 by omega) (by decide)
    · rw [List.take_add_one, hy, List.map_append]
      rfl
  · subst ha
    rw [List.take_length]
    exact hΦ
theorem depth_ints : ∀ ns : List Int, PyData.depthAll (ns.map PyData.int) = 0
  | [] => rfl
  | _ :: r => by simp only [List.map_cons, PyData.depthAll, PyData.depth, depth_ints r, Nat.max_self]
/-! ### data without texts: they compare by themselves -/
theorem canLay_ints : ∀ ns : List Int, PyData.canLayAll0 (ns.map PyData.int) = true
  | [] => rfl
  | _ :: r => by simp only [List.map_cons, PyData.canLayAll0, PyData.canLay0, canLay_ints r, Bool.and_self]
theorem eqvAll_ints : ∀ a b : List Int, PyData.eqvAll (a.map PyData.int) (b.map PyData.int) = decide (a = b)
  | [], [] => by simp [PyData.eqvAll]
  | [], _ :: _ => by simp [PyData.eqvAll]
  | _ :: _, [] => by simp [PyData.eqvAll]
  | x :: a, y :: b => by
    simp only [List.map_cons, PyData.eqvAll, eqv_ii, eqvAll_ints a b, List.cons.injEq]
    by_cases h : x = y <;> by_cases k : a = b <;> simp [h, k]
@[simp] theorem eqv_ints (a b : List Int) : PyData.eqv (.list (a.map PyData.int)) (.list (b.map PyData.int)) = decide (a = b) := by
  rw [PyData.eqv, eqvAll_ints]
@[simp] theorem shaped_ints (ns : List Int) : SeqAt.shaped (.list (ns.map PyData.int)) = true := by
  unfold SeqAt.shaped
  rw [PyData.canLay0, canLay_ints, PyData.depth, depth_ints]
  rfl
@[simp] theorem shaped_intsT (ns : List Int) : SeqAt.shaped (.tuple (ns.map PyData.int)) = true := by
  unfold SeqAt.shaped
  rw [PyData.canLay0, canLay_ints, PyData.depth, depth_ints]
  rfl
@[simp] theorem shaped_i (i : Int) : SeqAt.shaped (.int i) = true := rfl
/-! ### more statements and expressions -/
section
variable {C : Ctx} {f f1 f2 f3 : Bool} {ta tb tc td : TE} {da db dc dd : DE}
@[simp] def dPar (i j : Nat) (da db : DE) : DS := fun E δ => da δ fun x => db δ fun y => E.nx ((δ.set i (some (.d x))).set j (some (.d y)))
theorem sms_par (i j : Nat) (ha : Sm C true ta da) (hb : Sm C true tb db) : SmS C (tPar i j (tCons ta (tCons tb tNil))) (dPar i j da db) := fun σ δ H0 H E D s w e =>
  ha σ δ H0 H _ _ s w fun H01 H1 v x g1 r1 w1 => hb σ δ H01 H1 _ _ (s.go g1) w1 fun H02 H2 u y g2 r2 w2 =>
    ⟨v, u, rfl, e.nx _ _ _ _ (g1.fz.trans g2.fz) ((((s.go g1).go g2).set_d i (Rp.mono g2.fz r1)).set_d j r2) w2⟩
@[simp] def dChain (g g' : PyData → PyData → (PyData → Prop) → Prop) (da db dc : DE) : DE := fun δ Φ => da δ fun x => db δ fun y => g x y fun z => ∃ k, z = .bool k ∧ if k = true then dc δ fun w => g' y w Φ else Φ (.bool false)
theorem sm_chain {r r' : R2} {g g' : PyData → PyData → (PyData → Prop) → Prop} (hr : OpD C r g) (hr' : OpD C r' g') (ha : Sm C f1 ta da) (hb : Sm C f2 tb db) (hc : Sm C f3 tc dc) : Sm C f (tChain r r' ta tb tc) (dChain g g' da db dc) := fun σ δ H0 H Φ Q s w q =>
  ha σ δ H0 H _ _ s w fun H01 H1 v x g1 r1 w1 => hb σ δ H01 H1 _ _ (s.go g1) w1 fun H02 H2 u y g2 r2 w2 =>
    hr H2 v u x y _ _ ((r1.mono g2.loc).mono g2.wf.loc) (r2.mono g2.wf.loc) w2 fun w' z hz ⟨k, e, p⟩ => by
      subst e
      have hz := hz H2
      cases hz
      refine ⟨k, rfl, ?_⟩
      cases k with
      | false => exact iteF (q _ _ _ _ (g1.trans g2) (.bl false) (by simpa using p))
      | true =>
        exact iteT (hc σ δ H02 H2 _ _ ((s.go g1).go g2) (by simpa using p) fun H03 H3 t w3 g3 r3 p3 =>
          hr' H3 u t y w3 Φ Q ((r2.mono g3.loc).mono g3.wf.loc) (r3.mono g3.wf.loc) p3 fun w' z hz p => q _ _ w' z ((g1.trans g2).trans g3) (hz _) p)
/-- an object that is not frozen, new since the start, is written -/
theorem Go.wr {H0 H H0' H' : Hp} {p : Addr} {o : HO} (w : Wf C H0 H) (hp : H p = none) (g : Go C H0 H H0' H') (hn : H0' p = none) : Go C H0 H H0' (upd H' p o) := by
  obtain ⟨he, nex⟩ := Go.he w hp
  refine ⟨⟨fun b u e => ?_, fun b u n e => ?_, g.wf.fz, g.wf.nw, fun c e => ?_⟩, g.fz, fun b u n e => ?_, g.nw⟩
  · rw [upd_ne (fun z => by rw [z, hn] at e; cases e)]; exact g.wf.sub b u e
  · rw [upd_ne (fun z => by rw [z, he] at e; cases e)]; exact g.wf.kp b u n e
  · obtain ⟨c', i', v', s', cells, q1, q2, q3, q4⟩ := g.wf.dr c e
    exact ⟨c', i', v', s', cells, by rw [upd_ne (fun z => nex (by rw [← z]; exact e))]; exact q1, q2, q3, q4⟩
  · rw [upd_ne (fun z => by rw [z, hp] at e; cases e)]; exact g.kp b u n e
/-- {k1: a, k2: b, k3: c}[d], the keys written texts -/
@[simp] def dMenu3 (k1 k2 k3 : Str) (da db dc dd : DE) : DE := fun δ Φ => da δ fun x => db δ fun y => dc δ fun z => ∃ i j k, x = .int i ∧ y = .int j ∧ z = .int k ∧ ¬ k2 = k1 ∧ ¬ k3 = k1 ∧ ¬ k3 = k2 ∧ dd δ fun t => ∃ s, t = .str s ∧
  ((s = k1 ∧ Φ (.int i)) ∨ (s = k2 ∧ Φ (.int j)) ∨ (s = k3 ∧ Φ (.int k)))
theorem sm_menu3 {k1 k2 k3 : Str} (ha : Sm C f1 ta da) (hb : Sm C f2 tb db) (hc : Sm C f3 tc dc) (hd : Sm C false td dd) : Sm C f (tDGet (tDisp [(tC (.str k1), ta), (tC (.str k2), tb), (tC (.str k3), tc)]) td) (dMenu3 k1 k2 k3 da db dc dd) := fun σ δ H0 H Φ Q s w q => by
  intro p hp
  have gp : Go C H0 H H0 (upd H p (.dK [])) := Go.free s.toWf hp
  have nex := (Go.he s.toWf hp).2
  refine ha σ δ H0 _ _ _ (s.go gp) w fun H01 H1 v x g1 r1 w1 => hb σ δ H01 H1 _ _ ((s.go gp).go g1) w1 fun H02 H2 u y g2 r2 w2 => hc σ δ H02 H2 _ _ (((s.go gp).go g1).go g2) w2 fun H03 H3 t z g3 r3 w3 => ?_
  have g123 := (g1.trans g2).trans g3
  have hk : H3 p = some (.dK []) := g123.kp p _ nex upd_same
  have g0 := gp.trans g123
  have hn : H03 p = none := by
    cases e : H03 p with
    | none => rfl
    | some o =>
      rcases g123.nw p o e with h | h
      · rw [s.toWf.none hp] at h; cases h
      · rw [upd_same] at h; cases h
  obtain ⟨i, j, k, rfl, rfl, rfl, n1, n2, n3, w4⟩ := w3
  cases r1
  cases r2
  cases r3
  have m1 : mergeK [] [((.inr k1 : Key), V.int i), (.inr k2, .int j), (.inr k3, .int k)] = [((.inr k1 : Key), V.int i), (.inr k2, .int j), (.inr k3, .int k)] := by
    simp [mergeK, putK, Ne.symm n1, Ne.symm n2, Ne.symm n3, n1, n2, n3]
  refine ⟨hk, [((.inr k1 : Key), V.int i), (.inr k2, .int j), (.inr k3, .int k)], rfl, by simp, ?_⟩
  rw [m1]
  have g4 := Go.wr (o := .dK [((.inr k1 : Key), V.int i), (.inr k2, .int j), (.inr k3, .int k)]) s.toWf hp g0 hn
  refine hd σ δ H03 _ _ _ (s.go g4) w4 fun H05 H5 v5 x5 g5 r5 ⟨st, e5, p5⟩ => ?_
  subst e5
  cases r5
  have h5 : H5 p = some (.dK [((.inr k1 : Key), V.int i), (.inr k2, .int j), (.inr k3, .int k)]) := g5.kp p _ nex upd_same
  rcases p5 with ⟨rfl, p5⟩ | ⟨rfl, p5⟩ | ⟨rfl, p5⟩
  · refine ⟨p, .int i, rfl, .inl ⟨_, .inr st, .inl h5, rfl, ?_⟩, q _ _ _ _ (g4.trans g5) (.int i) p5⟩
    simp [valV]
  · refine ⟨p, .int j, rfl, .inl ⟨_, .inr st, .inl h5, rfl, ?_⟩, q _ _ _ _ (g4.trans g5) (.int j) p5⟩
    simp [valV, Ne.symm n1]
  · refine ⟨p, .int k, rfl, .inl ⟨_, .inr st, .inl h5, rfl, ?_⟩, q _ _ _ _ (g4.trans g5) (.int k) p5⟩
    simp [valV, Ne.symm n2, Ne.symm n3]
/-- an item of a written dict with text keys -/
def KdL (K : PySem.W.Frag) (w : World) (a : Addr) (L : List (Str × PyData)) : Prop := ∀ k v, (k, v) ∈ L → ∃ u, KDct K w a k u ∧ isScalV u = some v
theorem KdL.nil {K : PySem.W.Frag} {w : World} {a : Addr} : KdL K w a [] := fun _ _ h => nomatch h
theorem KdL.cons {K : PySem.W.Frag} {w : World} {a : Addr} {L : List (Str × PyData)} {k : Str} {v : PyData} {u : V} (h : KDct K w a k u) (e : isScalV u = some v) (t : KdL K w a L) : KdL K w a ((k, v) :: L) := fun k' v' h' => by
  rcases List.mem_cons.mp h' with h' | h'
  · cases h'; exact ⟨u, h, e⟩
  · exact t k' v' h'
theorem kd_i {K : PySem.W.Frag} {w : World} {a : Addr} {es : Array DictEntry} {n : Nat} {k : Str} {i : Int} {t : Tok} (h : K.lookup a = some ⟨.type "dict", none, .dict es n, #[]⟩) (hk : PySem.W.KeysLit w.params es.toList) (e : PySem.W.nsIn K a k = some (some (.int i t))) : KDct K w a k (.int i) := ⟨es, n, _, h, hk, e, ⟨t, rfl⟩⟩
theorem kd_s {K : PySem.W.Frag} {w : World} {a : Addr} {es : Array DictEntry} {n : Nat} {k : Str} {i : Str} {t : Tok} (h : K.lookup a = some ⟨.type "dict", none, .dict es n, #[]⟩) (hk : PySem.W.KeysLit w.params es.toList) (e : PySem.W.nsIn K a k = some (some (.str i t))) : KDct K w a k (.str i) := ⟨es, n, _, h, hk, e, ⟨t, rfl⟩⟩
theorem kx_kdict {X : Cx} {K : PySem.W.Frag} {w : World} (h : X.K = K) (h2 : X.w = w) : IxR X (rIxD K w) := by subst h h2; exact ix_kdict
@[simp] def dKd (L : List (Str × PyData)) (db : DE) : DE := fun δ Φ => db δ fun y => ∃ s v, y = .str s ∧ (s, v) ∈ L ∧ Φ v
theorem sm_kd {w : World} {a : Addr} {L : List (Str × PyData)} {v : V} (hv : v = .ref a) (hL : KdL C.K w a L) (hb : Sm C f1 tb db) : Sm C f (tOp (rIxD C.K w) (tC v) tb) (dKd L db) := fun σ δ H0 H Φ Q s w q =>
  hb σ δ H0 H _ _ s w fun H01 H1 u y g1 r1 ⟨st, z, e, m, p⟩ => by
    subst e
    cases r1
    obtain ⟨z', h1, h2⟩ := hL _ _ m
    exact ⟨a, st, z', hv, rfl, h1, q _ _ _ _ g1 (isScal_rp h2 _) p⟩
/-- a part of a text -/
abbrev DP := Dl → (Option Int → Prop) → Prop
def SmP (C : Ctx) (tp : TO) (dp : DP) : Prop := ∀ (σ : L2.St) (δ : Dl) (H0 H : Hp) (Φ : Option Int → Prop) (Q : Option Int → Hp → Prop), St C H0 H σ δ → dp δ Φ → (∀ H0' H' o, Go C H0 H H0' H' → Φ o → Q o H') → tp σ H Q
@[simp] def pNone : DP := fun _ Φ => Φ none
@[simp] def pSome (da : DE) : DP := fun δ Φ => da δ fun x => ∃ i, x = .int i ∧ Φ (some i)
theorem smp_none : SmP C tNoPart pNone := fun σ δ H0 H Φ Q s w q => q H0 H _ (.refl s.toWf) w
theorem smp_some (ha : Sm C f1 ta da) : SmP C (tPart ta) (pSome da) := fun σ δ H0 H Φ Q s w q =>
  ha σ δ H0 H _ _ s w fun H01 H1 v x g1 r1 ⟨i, e, p⟩ => by
    subst e
    cases r1
    exact ⟨i, rfl, q _ _ _ g1 p⟩
@[simp] def dSlS (da : DE) (dl dh : DP) : DE := fun δ Φ => da δ fun x => dl δ fun l => dh δ fun u => ∃ z, x = .str z ∧ z.length ≤ sizeLine ∧ Φ (.str (cutS z l u))
variable {tl th : TO} {dl dh : DP}
theorem sm_sl_str (ha : Sm C f1 ta da) (hl : SmP C tl dl) (hh : SmP C th dh) : Sm C f (tSl rSlS ta tl th) (dSlS da dl dh) := fun σ δ H0 H Φ Q s w q =>
  ha σ δ H0 H _ _ s w fun H01 H1 v x g1 r1 w1 => hl σ δ H01 H1 _ _ (s.go g1) w1 fun H02 H2 l g2 w2 => hh σ δ H02 H2 _ _ ((s.go g1).go g2) w2 fun H03 H3 u g3 ⟨z, e, hz, p⟩ => by
    subst e
    cases r1
    exact ⟨z, rfl, hz, q _ _ _ _ ((g1.trans g2).trans g3) (.str _) p⟩
end
/-! ### data without dicts, of a bounded depth and length -/
inductive Okd : Nat → PyData → Prop
  | none {n : Nat} : Okd n .none
  | bool {n : Nat} (b : Bool) : Okd n (.bool b)
  | int {n : Nat} (i : Int) : Okd n (.int i)
  | str {n : Nat} {s : Str} (h : PyData.canLay0 (.str s) = true) : Okd n (.str s)
  | list {n : Nat} {xs : List PyData} (h : ∀ y ∈ xs, Okd n y) (hl : xs.length ≤ 1000000) : Okd (n + 1) (.list xs)
  | tuple {n : Nat} {xs : List PyData} (h : ∀ y ∈ xs, Okd n y) (hl : xs.length ≤ 1000000) : Okd (n + 1) (.tuple xs)
theorem Okd.mono {n m : Nat} {x : PyData} (h : Okd n x) (hm : n ≤ m) : Okd m x := by
  induction h generalizing m with
  | none => exact .none
  | bool b => exact .bool b
  | int i => exact .int i
  | str h => exact .str h
  | list h hl ih =>
    obtain ⟨k, rfl⟩ : ∃ k, m = k + 1 := ⟨m - 1, by omega⟩
    exact .list (fun y hy => ih y hy (by omega)) hl
  | tuple h hl ih =>
    obtain ⟨k, rfl⟩ : ∃ k, m = k + 1 := ⟨m - 1, by omega⟩
    exact .tuple (fun y hy => ih y hy (by omega)) hl
theorem depthAll_le {n : Nat} : ∀ {xs : List PyData}, (∀ y ∈ xs, y.depth ≤ n) → PyData.depthAll xs ≤ n
  | [], _ => by rw [PyData.depthAll]; exact Nat.zero_le _
  | x :: xs, h => by
    rw [PyData.depthAll]
    exact Nat.max_le.mpr ⟨h x List.mem_cons_self, depthAll_le fun y hy => h y (List.mem_cons_of_mem _ hy)⟩
theorem layAll_of : ∀ {xs : List PyData}, (∀ y ∈ xs, y.canLay0 = true) → PyData.canLayAll0 xs = true
  | [], _ => by rw [PyData.canLayAll0]
  | x :: xs, h => by
    rw [PyData.canLayAll0, h x List.mem_cons_self, layAll_of fun y hy => h y (List.mem_cons_of_mem _ hy)]
    rfl
theorem Okd.depth {n : Nat} {x : PyData} (h : Okd n x) : x.depth ≤ n := by
  induction h with
  | none => rw [PyData.depth]; exact Nat.zero_le _
  | bool b => rw [PyData.depth]; exact Nat.zero_le _
  | int i => rw [PyData.depth]; exact Nat.zero_le _
  | str h => rw [PyData.depth]; exact Nat.zero_le _
  | list h hl ih => rw [PyData.depth]; exact Nat.succ_le_succ (depthAll_le ih)
  | tuple h hl ih => rw [PyData.depth]; exact Nat.succ_le_succ (depthAll_le ih)
theorem Okd.lay {n : Nat} {x : PyData} (h : Okd n x) : x.canLay0 = true := by
  induction h with
  | none => rw [PyData.canLay0]
  | bool b => rw [PyData.canLay0]
  | int i => rw [PyData.canLay0]
  | str h => exact h
  | list h hl ih => rw [PyData.canLay0]; exact layAll_of ih
  | tuple h hl ih => rw [PyData.canLay0]; exact layAll_of ih
theorem Okd.shaped {n : Nat} {x : PyData} (h : Okd n x) (hn : n ≤ 64) : SeqAt.shaped x = true := by
  unfold SeqAt.shaped
  rw [h.lay, decide_eq_true (Nat.le_trans h.depth hn)]
  rfl
/-! ### texts: a sign in a text, texts joined -/
section
variable {C : Ctx} {f f1 f2 : Bool} {ta tb : TE} {da db : DE}
@[simp] def gInS (neg : Bool) : PyData → PyData → (PyData → Prop) → Prop := fun x y Φ => ∃ (c : Nat) (z : Str), x = .str ⟨#[c]⟩ ∧ y = .str z ∧ Φ (.bool (if neg then !decide (c ∈ z.cps.toList) else decide (c ∈ z.cps.toList)))
theorem opd_inS : OpD C (fun x y H Q => ∃ (c : Nat) (z : Str), x = .str ⟨#[c]⟩ ∧ y = .str z ∧ Q (.bl (decide (c ∈ z.cps.toList))) H) (gInS false) := fun H v u x y Φ Q rv ru ⟨c, z, e1, e2, p⟩ q => by
  subst e1 e2
  cases rv
  cases ru
  exact ⟨c, z, rfl, rfl, q _ _ (fun _ => .bl _) p⟩
theorem opd_niS : OpD C (fun x y H Q => ∃ (c : Nat) (z : Str), x = .str ⟨#[c]⟩ ∧ y = .str z ∧ Q (.bl (!decide (c ∈ z.cps.toList))) H) (gInS true) := fun H v u x y Φ Q rv ru ⟨c, z, e1, e2, p⟩ q => by
  subst e1 e2
  cases rv
  cases ru
  exact ⟨c, z, rfl, rfl, q _ _ (fun _ => .bl _) p⟩
theorem rpa_strs {K : PySem.W.Frag} {H : Hp} : ∀ {vs : List V} {ys : List Str}, RpA K H vs (ys.map .str) → vs = ys.map V.str
  | _, [], .nil => rfl
  | _, y :: ys, .cons h r => by
    cases h
    rw [rpa_strs r]
    rfl
@[simp] def gCatT : PyData → PyData → (PyData → Prop) → Prop := fun x y Φ => ∃ a b, x = .str a ∧ y = .str b ∧ a.length + b.length ≤ sizeLine ∧ Φ (.str (a ++ b))
theorem opd_catS : OpD C (fun x y H Q => ∃ i j, x = V.str i ∧ y = V.str j ∧ i.length + j.length ≤ sizeLine ∧ Q (V.str (i ++ j)) H) gCatT := fun H v u x y Φ Q rv ru ⟨a, b, e1, e2, e3, p⟩ q => by
  subst e1 e2
  cases rv
  cases ru
  exact ⟨a, b, rfl, rfl, e3, q _ _ (fun _ => .str _) p⟩
@[simp] def dJoin (da db : DE) : DE := fun δ Φ => da δ fun x => ∃ a, x = .str a ∧ db δ fun y => ∃ ys : List Str, y = .list (ys.map .str) ∧ (ys.map (·.length)).sum + ys.length * a.length ≤ 16777216 ∧ Φ (.str (Txt.join a ys))
theorem sm_join (ha : Sm C f1 ta da) (hb : Sm C f2 tb db) : Sm C f (tM1 (fun x xs H Q => ∃ a p, ∃ ys : List Str, x = V.str a ∧ xs = [V.ref p] ∧ (SqL C.K H p (ys.map V.str) ∨ SqT C.K H p (ys.map V.str)) ∧ (ys.map (fun x => x.length)).sum + ys.length * a.length ≤ 16777216 ∧ Q (V.str (Txt.join a ys)) H) ta tb) (dJoin da db) := fun σ δ H0 H Φ Q s w q =>
  ha σ δ H0 H _ _ s w fun H01 H1 v x g1 r1 ⟨a, e, w1⟩ => by
    subst e
    cases r1
    refine ⟨⟨a, rfl⟩, hb σ δ H01 H1 _ _ (s.go g1) w1 fun H02 H2 u y g2 r2 ⟨ys, e, hl, p⟩ => ?_⟩
    subst e
    cases r2 with
    | lst h r =>
      have e := rpa_strs r
      subst e
      exact ⟨a, _, ys, rfl, rfl, .inl (SqL.of (g2.wf.loc _ _ h)), hl, q _ _ _ _ (g1.trans g2) (.str _) p⟩
end
/-! ### a part of a list, as a new list -/
section
variable {C : Ctx} {f f1 f2 : Bool} {ta tb : TE} {da db : DE} {tl th : TO} {dl dh : DP}
def cutDt (xs : List PyData) (lo hi : Option Int) : List PyData := List.take (HT.sIx xs.length xs.length hi - HT.sIx xs.length 0 lo) (List.drop (HT.sIx xs.length 0 lo) xs)
theorem rpa_drop {K : PySem.W.Frag} {H : Hp} : ∀ (n : Nat) {vs : List V} {xs : List PyData}, RpA K H vs xs → RpA K H (vs.drop n) (xs.drop n)
  | 0, _, _, h => h
  | n + 1, _, _, .nil => by rw [List.drop_nil, List.drop_nil]; exact .nil
  | n + 1, _, _, .cons _ r => rpa_drop n r
theorem rpa_take {K : PySem.W.Frag} {H : Hp} : ∀ (n : Nat) {vs : List V} {xs : List PyData}, RpA K H vs xs → RpA K H (vs.take n) (xs.take n)
  | 0, _, _, _ => .nil
  | n + 1, _, _, .nil => .nil
  | n + 1, _, _, .cons h r => .cons h (rpa_take n r)
theorem rpa_cut {K : PySem.W.Frag} {H : Hp} {vs : List V} {xs : List PyData} (r : RpA K H vs xs) (lo hi : Option Int) : RpA K H (cutV vs lo hi) (cutDt xs lo hi) := by
  unfold cutV cutDt
  rw [r.length]
  exact rpa_take _ (rpa_drop _ r)
@[simp] def oSlice (da : DE) (dl dh : DP) : DO := fun δ Φ => da δ fun x => dl δ fun l => dh δ fun u => ∃ xs, x = .list xs ∧ Φ (cutDt xs l u)
theorem smo_slice (ha : Sm C true ta da) (hl : SmP C tl dl) (hh : SmP C th dh) : SmO C (tSl (rSlL C.K) ta tl th) (oSlice da dl dh) := fun σ δ H0 H Φ Q s w q =>
  ha σ δ H0 H _ _ s w fun H01 H1 v x g1 r1 w1 => hl σ δ H01 H1 _ _ (s.go g1) w1 fun H02 H2 l g2 w2 => hh σ δ H02 H2 _ _ ((s.go g1).go g2) w2 fun H03 H3 u g3 ⟨xs, e, p⟩ => by
    subst e
    have r3 := (r1.mono g2.fz).mono g3.fz
    cases r3 with
    | @lst a1 us1 _ h r =>
      refine ⟨_, us1, rfl, SqL.of (g3.wf.sub _ _ h), fun l' hl' => ?_⟩
      exact q _ _ l' _ _ (((g1.trans g2).trans g3).trans (Go.free (o := .lst _) g3.wf hl')) (((g1.trans g2).trans g3).fresh hl') (g3.wf.none hl') upd_same (rpa_cut r _ _) p
end
/-! ### the least and the greatest of a list of numbers; a number as a test -/
section
variable {C : Ctx} {f f1 f2 : Bool} {ta tb : TE} {da db : DE}
theorem rpa_ints {K : PySem.W.Frag} {H : Hp} : ∀ {vs : List V} {ns : List Int}, RpA K H vs (ns.map .int) → vs = ns.map V.int
  | _, [], .nil => rfl
  | _, n :: ns, .cons h r => by
    cases h
    rw [rpa_ints r]
    rfl
@[simp] def gMinL : List PyData → (PyData → Prop) → Prop := fun xs Φ => ∃ ns : List Int, xs = [.list (ns.map .int)] ∧ 0 < ns.length ∧ ∀ m ∈ ns, (∀ y ∈ ns, m ≤ y) → Φ (.int m)
@[simp] def gMaxL : List PyData → (PyData → Prop) → Prop := fun xs Φ => ∃ ns : List Int, xs = [.list (ns.map .int)] ∧ 0 < ns.length ∧ ∀ m ∈ ns, (∀ y ∈ ns, y ≤ m) → Φ (.int m)
theorem cbd_minL : CbD C (rMin C.K) gMinL := fun H vs xs Φ Q r ⟨ns, e, hl, p⟩ q => by
  subst e
  cases r with
  | cons h n =>
    cases n
    cases h with
    | lst h r =>
      have e := rpa_ints r
      subst e
      exact ⟨_, ns, rfl, SqL.of h, hl, fun m hm hle => q _ _ (fun _ => .int _) (p m hm hle)⟩
theorem cbd_maxL : CbD C (rMax C.K) gMaxL := fun H vs xs Φ Q r ⟨ns, e, hl, p⟩ q => by
  subst e
  cases r with
  | cons h n =>
    cases n
    cases h with
    | lst h r =>
      have e := rpa_ints r
      subst e
      exact ⟨_, ns, rfl, SqL.of h, hl, fun m hm hle => q _ _ (fun _ => .int _) (p m hm hle)⟩
@[simp] def dTru (da : DE) : DT := fun δ Φ => da δ fun x => ∃ i : Int, x = .int i ∧ Φ (i != 0)
theorem smt_tru (ha : Sm C f1 ta da) : SmT C (fun σ H Q => ta σ H fun x H' => ∃ k, TruV C.K x H' k ∧ Q k H') (dTru da) := fun σ δ H0 H Φ Q s w q =>
  ha σ δ H0 H _ _ s w fun H01 H1 v x g1 r1 ⟨i, e, w1⟩ => by
    subst e
    cases r1
    exact ⟨_, rfl, q _ _ _ g1 w1⟩
end
end VL

namespace Toy
open PySem PySem.Spec PyProof.Rows L2 VL
def topS (i : Nat) : Stmt := PySem.Challenge.pw_burnish_k33_decide_comparisons.main.body.getD i (.Pass ⟨0, 0, 0, 0⟩)
abbrev swidth : Stmt := topS 4
theorem sc_width : FnScope ["kind"] ["kind"] (defScope swidth) := ⟨rfl, rfl, rfl, by decide +kernel, rfl, by decide +kernel, by decide +kernel⟩
abbrev sopposite : Stmt := topS 5
theorem sc_opposite : FnScope ["predicate"] ["predicate"] (defScope sopposite) := ⟨rfl, rfl, rfl, by decide +kernel, rfl, by decide +kernel, by decide +kernel⟩
abbrev sswapped : Stmt := topS 6
theorem sc_swapped : FnScope ["predicate"] ["predicate"] (defScope sswapped) := ⟨rfl, rfl, rfl, by decide +kernel, rfl, by decide +kernel, by decide +kernel⟩
abbrev shalf_of : Stmt := topS 8
theorem sc_half_of : FnScope ["kind"] ["kind"] (defScope shalf_of) := ⟨rfl, rfl, rfl, by decide +kernel, rfl, by decide +kernel, by decide +kernel⟩
abbrev sis_single : Stmt := topS 9
theorem sc_is_single : FnScope ["bounds"] ["bounds"] (defScope sis_single) := ⟨rfl, rfl, rfl, by decide +kernel, rfl, by decide +kernel, by decide +kernel⟩
abbrev sdecide : Stmt := topS 10
theorem sc_decide : FnScope ["predicate", "kind", "a", "b", "told"] ["predicate", "kind", "a", "b"] (defScope sdecide) := ⟨rfl, rfl, rfl, by decide +kernel, rfl, by decide +kernel, by decide +kernel⟩
abbrev s_equal : Stmt := topS 11
theorem sc__equal : FnScope ["a", "b"] ["a", "b"] (defScope s_equal) := ⟨rfl, rfl, rfl, by decide +kernel, rfl, by decide +kernel, by decide +kernel⟩
abbrev s_less : Stmt := topS 12
theorem sc__less : FnScope ["predicate", "kind", "a", "b", "half"] ["predicate", "kind", "a", "b"] (defScope s_less) := ⟨rfl, rfl, rfl, by decide +kernel, rfl, by decide +kernel, by decide +kernel⟩
abbrev s_law_draw : Stmt := topS 14
theorem sc__law_draw : FnScope ["script", "seed", "cell"] ["script"] (defScope s_law_draw) := ⟨rfl, rfl, rfl, by decide +kernel, rfl, by decide +kernel, by decide +kernel⟩
abbrev s_law_take : Stmt := topS 15
theorem sc__law_take : FnScope ["draw", "many", "found"] ["draw", "many"] (defScope s_law_take) := ⟨rfl, rfl, rfl, by decide +kernel, rfl, by decide +kernel, by decide +kernel⟩
abbrev s_law_whole : Stmt := topS 16
theorem sc__law_whole : FnScope ["value"] ["value"] (defScope s_law_whole) := ⟨rfl, rfl, rfl, by decide +kernel, rfl, by decide +kernel, by decide +kernel⟩
abbrev s_law_width : Stmt := topS 17
theorem sc__law_width : FnScope ["kind", "row"] ["kind"] (defScope s_law_width) := ⟨rfl, rfl, rfl, by decide +kernel, rfl, by decide +kernel, by decide +kernel⟩
abbrev s_law_number : Stmt := topS 18
theorem sc__law_number : FnScope ["draw", "w", "top", "k", "found", "part"] ["draw", "w"] (defScope s_law_number) := ⟨rfl, rfl, rfl, by decide +kernel, rfl, by decide +kernel, by decide +kernel⟩
abbrev s_law_signed : Stmt := topS 19
theorem sc__law_signed : FnScope ["w", "x"] ["w", "x"] (defScope s_law_signed) := ⟨rfl, rfl, rfl, by decide +kernel, rfl, by decide +kernel, by decide +kernel⟩
abbrev s_law_compare : Stmt := topS 23
theorem sc__law_compare : FnScope ["predicate", "w", "x", "y", "word"] ["predicate", "w", "x", "y"] (defScope s_law_compare) := ⟨rfl, rfl, rfl, by decide +kernel, rfl, by decide +kernel, by decide +kernel⟩
abbrev s_law_tight : Stmt := topS 27
theorem sc__law_tight : FnScope ["values", "w", "top", "zeros", "ones", "value"] ["values", "w"] (defScope s_law_tight) := ⟨rfl, rfl, rfl, by decide +kernel, rfl, by decide +kernel, by decide +kernel⟩
abbrev s_law_loose : Stmt := topS 28
theorem sc__law_loose : FnScope ["draw", "bounds", "w", "top", "how", "mask", "lo", "hi", "zeros", "ones"] ["draw", "bounds", "w"] (defScope s_law_loose) := ⟨rfl, rfl, rfl, by decide +kernel, rfl, by decide +kernel, by decide +kernel⟩
abbrev s_law_below : Stmt := topS 29
theorem sc__law_below : FnScope ["a", "b"] ["a", "b"] (defScope s_law_below) := ⟨rfl, rfl, rfl, by decide +kernel, rfl, by decide +kernel, by decide +kernel⟩
abbrev s_law_opposite : Stmt := topS 30
theorem sc__law_opposite : FnScope ["answer"] ["answer"] (defScope s_law_opposite) := ⟨rfl, rfl, rfl, by decide +kernel, rfl, by decide +kernel, by decide +kernel⟩
abbrev s_law_equal : Stmt := topS 31
theorem sc__law_equal : FnScope ["a", "b"] ["a", "b"] (defScope s_law_equal) := ⟨rfl, rfl, rfl, by decide +kernel, rfl, by decide +kernel, by decide +kernel⟩
abbrev s_law_order : Stmt := topS 32
theorem sc__law_order : FnScope ["predicate", "w", "a", "b", "word", "answer", "one", "two", "bit"] ["predicate", "w", "a", "b"] (defScope s_law_order) := ⟨rfl, rfl, rfl, by decide +kernel, rfl, by decide +kernel, by decide +kernel⟩
abbrev slaw : Stmt := topS 33
theorem sc_law : FnScope ["script", "draw", "kind", "w", "words", "predicate", "first", "second", "a", "b", "answer", "due", "x", "y", "k", "value"] ["script"] (defScope slaw) := ⟨rfl, rfl, rfl, by decide +kernel, rfl, by decide +kernel, by decide +kernel⟩
def L__WIDTHS : List (Str × PyData) := [("i1", .int 1), ("i8", .int 8), ("i16", .int 16), ("i32", .int 32), ("i64", .int 64)]
def L__OPPOSITES : List (Str × PyData) := [("eq", .str "ne"), ("ne", .str "eq"), ("ult", .str "uge"), ("uge", .str "ult"), ("ule", .str "ugt"), ("ugt", .str "ule"), ("slt", .str "sge"), ("sge", .str "slt"), ("sle", .str "sgt"), ("sgt", .str "sle")]
def L__SWAPPED : List (Str × PyData) := [("eq", .str "eq"), ("ne", .str "ne"), ("ult", .str "ugt"), ("ugt", .str "ult"), ("ule", .str "uge"), ("uge", .str "ule"), ("slt", .str "sgt"), ("sgt", .str "slt"), ("sle", .str "sge"), ("sge", .str "sle")]
structure Txt (K : PySem.W.Frag) (mg : Str → Option Value) (w : World) where
  f_width : Addr
  fd_width : FuncData
  F_width : Fun K "width" "width" swidth f_width fd_width
  g_width : mg "width" = some (.ref f_width)
  b_width : Binds K fd_width ["kind"] []
  f_opposite : Addr
  fd_opposite : FuncData
  F_opposite : Fun K "opposite" "opposite" sopposite f_opposite fd_opposite
  g_opposite : mg "opposite" = some (.ref f_opposite)
  b_opposite : Binds K fd_opposite ["predicate"] []
  f_swapped : Addr
  fd_swapped : FuncData
  F_swapped : Fun K "swapped" "swapped" sswapped f_swapped fd_swapped
  g_swapped : mg "swapped" = some (.ref f_swapped)
  b_swapped : Binds K fd_swapped ["predicate"] []
  f_half_of : Addr
  fd_half_of : FuncData
  F_half_of : Fun K "half_of" "half_of" shalf_of f_half_of fd_half_of
  g_half_of : mg "half_of" = some (.ref f_half_of)
  b_half_of : Binds K fd_half_of ["kind"] []
  f_is_single : Addr
  fd_is_single : FuncData
  F_is_single : Fun K "is_single" "is_single" sis_single f_is_single fd_is_single
  g_is_single : mg "is_single" = some (.ref f_is_single)
  b_is_single : Binds K fd_is_single ["bounds"] []
  f_decide : Addr
  fd_decide : FuncData
  F_decide : Fun K "decide" "decide" sdecide f_decide fd_decide
  g_decide : mg "decide" = some (.ref f_decide)
  b_decide : Binds K fd_decide ["predicate", "kind", "a", "b"] []
  f__equal : Addr
  fd__equal : FuncData
  F__equal : Fun K "_equal" "_equal" s_equal f__equal fd__equal
  g__equal : mg "_equal" = some (.ref f__equal)
  b__equal : Binds K fd__equal ["a", "b"] []
  f__less : Addr
  fd__less : FuncData
  F__less : Fun K "_less" "_less" s_less f__less fd__less
  g__less : mg "_less" = some (.ref f__less)
  b__less : Binds K fd__less ["predicate", "kind", "a", "b"] []
  f__law_draw : Addr
  fd__law_draw : FuncData
  F__law_draw : Fun K "_law_draw" "_law_draw" s_law_draw f__law_draw fd__law_draw
  g__law_draw : mg "_law_draw" = some (.ref f__law_draw)
  b__law_draw : Binds K fd__law_draw ["script"] []
  f__law_take : Addr
  fd__law_take : FuncData
  F__law_take : Fun K "_law_take" "_law_take" s_law_take f__law_take fd__law_take
  g__law_take : mg "_law_take" = some (.ref f__law_take)
  b__law_take : Binds K fd__law_take ["draw", "many"] []
  f__law_whole : Addr
  fd__law_whole : FuncData
  F__law_whole : Fun K "_law_whole" "_law_whole" s_law_whole f__law_whole fd__law_whole
  g__law_whole : mg "_law_whole" = some (.ref f__law_whole)
  b__law_whole : Binds K fd__law_whole ["value"] []
  f__law_width : Addr
  fd__law_width : FuncData
  F__law_width : Fun K "_law_width" "_law_width" s_law_width f__law_width fd__law_width
  g__law_width : mg "_law_width" = some (.ref f__law_width)
  b__law_width : Binds K fd__law_width ["kind"] []
  f__law_number : Addr
  fd__law_number : FuncData
  F__law_number : Fun K "_law_number" "_law_number" s_law_number f__law_number fd__law_number
  g__law_number : mg "_law_number" = some (.ref f__law_number)
  b__law_number : Binds K fd__law_number ["draw", "w"] []
  f__law_signed : Addr
  fd__law_signed : FuncData
  F__law_signed : Fun K "_law_signed" "_law_signed" s_law_signed f__law_signed fd__law_signed
  g__law_signed : mg "_law_signed" = some (.ref f__law_signed)
  b__law_signed : Binds K fd__law_signed ["w", "x"] []
  f__law_compare : Addr
  fd__law_compare : FuncData
  F__law_compare : Fun K "_law_compare" "_law_compare" s_law_compare f__law_compare fd__law_compare
  g__law_compare : mg "_law_compare" = some (.ref f__law_compare)
  b__law_compare : Binds K fd__law_compare ["predicate", "w", "x", "y"] []
  f__law_tight : Addr
  fd__law_tight : FuncData
  F__law_tight : Fun K "_law_tight" "_law_tight" s_law_tight f__law_tight fd__law_tight
  g__law_tight : mg "_law_tight" = some (.ref f__law_tight)
  b__law_tight : Binds K fd__law_tight ["values", "w"] []
  f__law_loose : Addr
  fd__law_loose : FuncData
  F__law_loose : Fun K "_law_loose" "_law_loose" s_law_loose f__law_loose fd__law_loose
  g__law_loose : mg "_law_loose" = some (.ref f__law_loose)
  b__law_loose : Binds K fd__law_loose ["draw", "bounds", "w"] []
  f__law_below : Addr
  fd__law_below : FuncData
  F__law_below : Fun K "_law_below" "_law_below" s_law_below f__law_below fd__law_below
  g__law_below : mg "_law_below" = some (.ref f__law_below)
  b__law_below : Binds K fd__law_below ["a", "b"] []
  f__law_opposite : Addr
  fd__law_opposite : FuncData
  F__law_opposite : Fun K "_law_opposite" "_law_opposite" s_law_opposite f__law_opposite fd__law_opposite
  g__law_opposite : mg "_law_opposite" = some (.ref f__law_opposite)
  b__law_opposite : Binds K fd__law_opposite ["answer"] []
  f__law_equal : Addr
  fd__law_equal : FuncData
  F__law_equal : Fun K "_law_equal" "_law_equal" s_law_equal f__law_equal fd__law_equal
  g__law_equal : mg "_law_equal" = some (.ref f__law_equal)
  b__law_equal : Binds K fd__law_equal ["a", "b"] []
  f__law_order : Addr
  fd__law_order : FuncData
  F__law_order : Fun K "_law_order" "_law_order" s_law_order f__law_order fd__law_order
  g__law_order : mg "_law_order" = some (.ref f__law_order)
  b__law_order : Binds K fd__law_order ["predicate", "w", "a", "b"] []
  f_law : Addr
  fd_law : FuncData
  F_law : Fun K "law" "law" slaw f_law fd_law
  g_law : mg "law" = some (.ref f_law)
  b_law : Binds K fd_law ["script"] []
  int : mg "int" = none
  abs : mg "abs" = none
  len : mg "len" = none
  isinstance : mg "isinstance" = none
  bool : mg "bool" = none
  range : mg "range" = none
  min : mg "min" = none
  max : mg "max" = none
  a__WIDTHS : Addr
  g__WIDTHS : mg "_WIDTHS" = some (.ref a__WIDTHS)
  kd__WIDTHS : KdL K w a__WIDTHS L__WIDTHS
  a__OPPOSITES : Addr
  g__OPPOSITES : mg "_OPPOSITES" = some (.ref a__OPPOSITES)
  kd__OPPOSITES : KdL K w a__OPPOSITES L__OPPOSITES
  a__SWAPPED : Addr
  g__SWAPPED : mg "_SWAPPED" = some (.ref a__SWAPPED)
  kd__SWAPPED : KdL K w a__SWAPPED L__SWAPPED
@[simp] theorem sx_0_1 : ¬ (("burnish.words" : Str) = ("burnish.lattice" : Str)) := by decide +kernel
@[simp] theorem sx_0_2 : ¬ (("burnish.words" : Str) = ("i1" : Str)) := by decide +kernel
@[simp] theorem sx_0_3 : ¬ (("burnish.words" : Str) = ("i8" : Str)) := by decide +kernel
@[simp] theorem sx_0_4 : ¬ (("burnish.words" : Str) = ("i16" : Str)) := by decide +kernel
@[simp] theorem sx_0_5 : ¬ (("burnish.words" : Str) = ("i32" : Str)) := by decide +kernel
@[simp] theorem sx_0_6 : ¬ (("burnish.words" : Str) = ("i64" : Str)) := by decide +kernel
@[simp] theorem sx_0_7 : ¬ (("burnish.words" : Str) = ("eq" : Str)) := by decide +kernel
@[simp] theorem sx_0_8 : ¬ (("burnish.words" : Str) = ("ne" : Str)) := by decide +kernel
@[simp] theorem sx_0_9 : ¬ (("burnish.words" : Str) = ("ult" : Str)) := by decide +kernel
@[simp] theorem sx_0_10 : ¬ (("burnish.words" : Str) = ("uge" : Str)) := by decide +kernel
@[simp] theorem sx_0_11 : ¬ (("burnish.words" : Str) = ("ule" : Str)) := by decide +kernel
@[simp] theorem sx_0_12 : ¬ (("burnish.words" : Str) = ("ugt" : Str)) := by decide +kernel
@[simp] theorem sx_0_13 : ¬ (("burnish.words" : Str) = ("slt" : Str)) := by decide +kernel
@[simp] theorem sx_0_14 : ¬ (("burnish.words" : Str) = ("sge" : Str)) := by decide +kernel
@[simp] theorem sx_0_15 : ¬ (("burnish.words" : Str) = ("sle" : Str)) := by decide +kernel
@[simp] theorem sx_0_16 : ¬ (("burnish.words" : Str) = ("sgt" : Str)) := by decide +kernel
@[simp] theorem sx_0_17 : ¬ (("burnish.words" : Str) = ("shl" : Str)) := by decide +kernel
@[simp] theorem sx_0_18 : ¬ (("burnish.words" : Str) = ("lshr" : Str)) := by decide +kernel
@[simp] theorem sx_0_19 : ¬ (("burnish.words" : Str) = ("udiv" : Str)) := by decide +kernel
@[simp] theorem sx_0_20 : ¬ (("burnish.words" : Str) = ("urem" : Str)) := by decide +kernel
@[simp] theorem sx_0_21 : ¬ (("burnish.words" : Str) = ("sdiv" : Str)) := by decide +kernel
@[simp] theorem sx_0_22 : ¬ (("burnish.words" : Str) = ("add" : Str)) := by decide +kernel
@[simp] theorem sx_0_23 : ¬ (("burnish.words" : Str) = ("sub" : Str)) := by decide +kernel
@[simp] theorem sx_0_24 : ¬ (("burnish.words" : Str) = ("mul" : Str)) := by decide +kernel
@[simp] theorem sx_0_25 : ¬ (("burnish.words" : Str) = ("and" : Str)) := by decide +kernel
@[simp] theorem sx_0_26 : ¬ (("burnish.words" : Str) = ("or" : Str)) := by decide +kernel
@[simp] theorem sx_0_27 : ¬ (("burnish.words" : Str) = ("xor" : Str)) := by decide +kernel
@[simp] theorem sx_0_28 : ¬ (("burnish.words" : Str) = ("s" : Str)) := by decide +kernel
@[simp] theorem sx_0_29 : ¬ (("burnish.words" : Str) = ("lt" : Str)) := by decide +kernel
@[simp] theorem sx_0_30 : ¬ (("burnish.words" : Str) = ("le" : Str)) := by decide +kernel
@[simp] theorem sx_0_31 : ¬ (("burnish.words" : Str) = ("gt" : Str)) := by decide +kernel
@[simp] theorem sx_0_32 : ¬ (("burnish.words" : Str) = ("sext" : Str)) := by decide +kernel
@[simp] theorem sx_0_33 : ¬ (("burnish.words" : Str) = ("ashr" : Str)) := by decide +kernel
@[simp] theorem sx_0_34 : ¬ (("burnish.words" : Str) = ("ge" : Str)) := by decide +kernel
@[simp] theorem sx_1_0 : ¬ (("burnish.lattice" : Str) = ("burnish.words" : Str)) := by decide +kernel
@[simp] theorem sx_1_2 : ¬ (("burnish.lattice" : Str) = ("i1" : Str)) := by decide +kernel
@[simp] theorem sx_1_3 : ¬ (("burnish.lattice" : Str) = ("i8" : Str)) := by decide +kernel
@[simp] theorem sx_1_4 : ¬ (("burnish.lattice" : Str) = ("i16" : Str)) := by decide +kernel
@[simp] theorem sx_1_5 : ¬ (("burnish.lattice" : Str) = ("i32" : Str)) := by decide +kernel
@[simp] theorem sx_1_6 : ¬ (("burnish.lattice" : Str) = ("i64" : Str)) := by decide +kernel
@[simp] theorem sx_1_7 : ¬ (("burnish.lattice" : Str) = ("eq" : Str)) := by decide +kernel
@[simp] theorem sx_1_8 : ¬ (("burnish.lattice" : Str) = ("ne" : Str)) := by decide +kernel
@[simp] theorem sx_1_9 : ¬ (("burnish.lattice" : Str) = ("ult" : Str)) := by decide +kernel
@[simp] theorem sx_1_10 : ¬ (("burnish.lattice" : Str) = ("uge" : Str)) := by decide +kernel
@[simp] theorem sx_1_11 : ¬ (("burnish.lattice" : Str) = ("ule" : Str)) := by decide +kernel
@[simp] theorem sx_1_12 : ¬ (("burnish.lattice" : Str) = ("ugt" : Str)) := by decide +kernel
@[simp] theorem sx_1_13 : ¬ (("burnish.lattice" : Str) = ("slt" : Str)) := by decide +kernel
@[simp] theorem sx_1_14 : ¬ (("burnish.lattice" : Str) = ("sge" : Str)) := by decide +kernel
@[simp] theorem sx_1_15 : ¬ (("burnish.lattice" : Str) = ("sle" : Str)) := by decide +kernel
@[simp] theorem sx_1_16 : ¬ (("burnish.lattice" : Str) = ("sgt" : Str)) := by decide +kernel
@[simp] theorem sx_1_17 : ¬ (("burnish.lattice" : Str) = ("shl" : Str)) := by decide +kernel
@[simp] theorem sx_1_18 : ¬ (("burnish.lattice" : Str) = ("lshr" : Str)) := by decide +kernel
@[simp] theorem sx_1_19 : ¬ (("burnish.lattice" : Str) = ("udiv" : Str)) := by decide +kernel
@[simp] theorem sx_1_20 : ¬ (("burnish.lattice" : Str) = ("urem" : Str)) := by decide +kernel
@[simp] theorem sx_1_21 : ¬ (("burnish.lattice" : Str) = ("sdiv" : Str)) := by decide +kernel
@[simp] theorem sx_1_22 : ¬ (("burnish.lattice" : Str) = ("add" : Str)) := by decide +kernel
@[simp] theorem sx_1_23 : ¬ (("burnish.lattice" : Str) = ("sub" : Str)) := by decide +kernel
@[simp] theorem sx_1_24 : ¬ (("burnish.lattice" : Str) = ("mul" : Str)) := by decide +kernel
@[simp] theorem sx_1_25 : ¬ (("burnish.lattice" : Str) = ("and" : Str)) := by decide +kernel
@[simp] theorem sx_1_26 : ¬ (("burnish.lattice" : Str) = ("or" : Str)) := by decide +kernel
@[simp] theorem sx_1_27 : ¬ (("burnish.lattice" : Str) = ("xor" : Str)) := by decide +kernel
@[simp] theorem sx_1_28 : ¬ (("burnish.lattice" : Str) = ("s" : Str)) := by decide +kernel
@[simp] theorem sx_1_29 : ¬ (("burnish.lattice" : Str) = ("lt" : Str)) := by decide +kernel
@[simp] theorem sx_1_30 : ¬ (("burnish.lattice" : Str) = ("le" : Str)) := by decide +kernel
@[simp] theorem sx_1_31 : ¬ (("burnish.lattice" : Str) = ("gt" : Str)) := by decide +kernel
@[simp] theorem sx_1_32 : ¬ (("burnish.lattice" : Str) = ("sext" : Str)) := by decide +kernel
@[simp] theorem sx_1_33 : ¬ (("burnish.lattice" : Str) = ("ashr" : Str)) := by decide +kernel
@[simp] theorem sx_1_34 : ¬ (("burnish.lattice" : Str) = ("ge" : Str)) := by decide +kernel
@[simp] theorem sx_2_0 : ¬ (("i1" : Str) = ("burnish.words" : Str)) := by decide +kernel
@[simp] theorem sx_2_1 : ¬ (("i1" : Str) = ("burnish.lattice" : Str)) := by decide +kernel
@[simp] theorem sx_2_3 : ¬ (("i1" : Str) = ("i8" : Str)) := by decide +kernel
@[simp] theorem sx_2_4 : ¬ (("i1" : Str) = ("i16" : Str)) := by decide +kernel
@[simp] theorem sx_2_5 : ¬ (("i1" : Str) = ("i32" : Str)) := by decide +kernel
@[simp] theorem sx_2_6 : ¬ (("i1" : Str) = ("i64" : Str)) := by decide +kernel
@[simp] theorem sx_2_7 : ¬ (("i1" : Str) = ("eq" : Str)) := by decide +kernel
@[simp] theorem sx_2_8 : ¬ (("i1" : Str) = ("ne" : Str)) := by decide +kernel
@[simp] theorem sx_2_9 : ¬ (("i1" : Str) = ("ult" : Str)) := by decide +kernel
@[simp] theorem sx_2_10 : ¬ (("i1" : Str) = ("uge" : Str)) := by decide +kernel
@[simp] theorem sx_2_11 : ¬ (("i1" : Str) = ("ule" : Str)) := by decide +kernel
@[simp] theorem sx_2_12 : ¬ (("i1" : Str) = ("ugt" : Str)) := by decide +kernel
@[simp] theorem sx_2_13 : ¬ (("i1" : Str) = ("slt" : Str)) := by decide +kernel
@[simp] theorem sx_2_14 : ¬ (("i1" : Str) = ("sge" : Str)) := by decide +kernel
@[simp] theorem sx_2_15 : ¬ (("i1" : Str) = ("sle" : Str)) := by decide +kernel
@[simp] theorem sx_2_16 : ¬ (("i1" : Str) = ("sgt" : Str)) := by decide +kernel
@[simp] theorem sx_2_17 : ¬ (("i1" : Str) = ("shl" : Str)) := by decide +kernel
@[simp] theorem sx_2_18 : ¬ (("i1" : Str) = ("lshr" : Str)) := by decide +kernel
@[simp] theorem sx_2_19 : ¬ (("i1" : Str) = ("udiv" : Str)) := by decide +kernel
@[simp] theorem sx_2_20 : ¬ (("i1" : Str) = ("urem" : Str)) := by decide +kernel
@[simp] theorem sx_2_21 : ¬ (("i1" : Str) = ("sdiv" : Str)) := by decide +kernel
@[simp] theorem sx_2_22 : ¬ (("i1" : Str) = ("add" : Str)) := by decide +kernel
@[simp] theorem sx_2_23 : ¬ (("i1" : Str) = ("sub" : Str)) := by decide +kernel
@[simp] theorem sx_2_24 : ¬ (("i1" : Str) = ("mul" : Str)) := by decide +kernel
@[simp] theorem sx_2_25 : ¬ (("i1" : Str) = ("and" : Str)) := by decide +kernel
@[simp] theorem sx_2_26 : ¬ (("i1" : Str) = ("or" : Str)) := by decide +kernel
@[simp] theorem sx_2_27 : ¬ (("i1" : Str) = ("xor" : Str)) := by decide +kernel
@[simp] theorem sx_2_28 : ¬ (("i1" : Str) = ("s" : Str)) := by decide +kernel
@[simp] theorem sx_2_29 : ¬ (("i1" : Str) = ("lt" : Str)) := by decide +kernel
@[simp] theorem sx_2_30 : ¬ (("i1" : Str) = ("le" : Str)) := by decide +kernel
@[simp] theorem sx_2_31 : ¬ (("i1" : Str) = ("gt" : Str)) := by decide +kernel
@[simp] theorem sx_2_32 : ¬ (("i1" : Str) = ("sext" : Str)) := by decide +kernel
@[simp] theorem sx_2_33 : ¬ (("i1" : Str) = ("ashr" : Str)) := by decide +kernel
@[simp] theorem sx_2_34 : ¬ (("i1" : Str) = ("ge" : Str)) := by decide +kernel
@[simp] theorem sx_3_0 : ¬ (("i8" : Str) = ("burnish.words" : Str)) := by decide +kernel
@[simp] theorem sx_3_1 : ¬ (("i8" : Str) = ("burnish.lattice" : Str)) := by decide +kernel
@[simp] theorem sx_3_2 : ¬ (("i8" : Str) = ("i1" : Str)) := by decide +kernel
@[simp] theorem sx_3_4 : ¬ (("i8" : Str) = ("i16" : Str)) := by decide +kernel
@[simp] theorem sx_3_5 : ¬ (("i8" : Str) = ("i32" : Str)) := by decide +kernel
@[simp] theorem sx_3_6 : ¬ (("i8" : Str) = ("i64" : Str)) := by decide +kernel
@[simp] theorem sx_3_7 : ¬ (("i8" : Str) = ("eq" : Str)) := by decide +kernel
@[simp] theorem sx_3_8 : ¬ (("i8" : Str) = ("ne" : Str)) := by decide +kernel
@[simp] theorem sx_3_9 : ¬ (("i8" : Str) = ("ult" : Str)) := by decide +kernel
@[simp] theorem sx_3_10 : ¬ (("i8" : Str) = ("uge" : Str)) := by decide +kernel
@[simp] theorem sx_3_11 : ¬ (("i8" : Str) = ("ule" : Str)) := by decide +kernel
@[simp] theorem sx_3_12 : ¬ (("i8" : Str) = ("ugt" : Str)) := by decide +kernel
@[simp] theorem sx_3_13 : ¬ (("i8" : Str) = ("slt" : Str)) := by decide +kernel
@[simp] theorem sx_3_14 : ¬ (("i8" : Str) = ("sge" : Str)) := by decide +kernel
@[simp] theorem sx_3_15 : ¬ (("i8" : Str) = ("sle" : Str)) := by decide +kernel
@[simp] theorem sx_3_16 : ¬ (("i8" : Str) = ("sgt" : Str)) := by decide +kernel
@[simp] theorem sx_3_17 : ¬ (("i8" : Str) = ("shl" : Str)) := by decide +kernel
@[simp] theorem sx_3_18 : ¬ (("i8" : Str) = ("lshr" : Str)) := by decide +kernel
@[simp] theorem sx_3_19 : ¬ (("i8" : Str) = ("udiv" : Str)) := by decide +kernel
@[simp] theorem sx_3_20 : ¬ (("i8" : Str) = ("urem" : Str)) := by decide +kernel
@[simp] theorem sx_3_21 : ¬ (("i8" : Str) = ("sdiv" : Str)) := by decide +kernel
@[simp] theorem sx_3_22 : ¬ (("i8" : Str) = ("add" : Str)) := by decide +kernel
@[simp] theorem sx_3_23 : ¬ (("i8" : Str) = ("sub" : Str)) := by decide +kernel
@[simp] theorem sx_3_24 : ¬ (("i8" : Str) = ("mul" : Str)) := by decide +kernel
@[simp] theorem sx_3_25 : ¬ (("i8" : Str) = ("and" : Str)) := by decide +kernel
@[simp] theorem sx_3_26 : ¬ (("i8" : Str) = ("or" : Str)) := by decide +kernel
@[simp] theorem sx_3_27 : ¬ (("i8" : Str) = ("xor" : Str)) := by decide +kernel
@[simp] theorem sx_3_28 : ¬ (("i8" : Str) = ("s" : Str)) := by decide +kernel
@[simp] theorem sx_3_29 : ¬ (("i8" : Str) = ("lt" : Str)) := by decide +kernel
@[simp] theorem sx_3_30 : ¬ (("i8" : Str) = ("le" : Str)) := by decide +kernel
@[simp] theorem sx_3_31 : ¬ (("i8" : Str) = ("gt" : Str)) := by decide +kernel
@[simp] theorem sx_3_32 : ¬ (("i8" : Str) = ("sext" : Str)) := by decide +kernel
@[simp] theorem sx_3_33 : ¬ (("i8" : Str) = ("ashr" : Str)) := by decide +kernel
@[simp] theorem sx_3_34 : ¬ (("i8" : Str) = ("ge" : Str)) := by decide +kernel
@[simp] theorem sx_4_0 : ¬ (("i16" : Str) = ("burnish.words" : Str)) := by decide +kernel
@[simp] theorem sx_4_1 : ¬ (("i16" : Str) = ("burnish.lattice" : Str)) := by decide +kernel
@[simp] theorem sx_4_2 : ¬ (("i16" : Str) = ("i1" : Str)) := by decide +kernel
@[simp] theorem sx_4_3 : ¬ (("i16" : Str) = ("i8" : Str)) := by decide +kernel
@[simp] theorem sx_4_5 : ¬ (("i16" : Str) = ("i32" : Str)) := by decide +kernel
@[simp] theorem sx_4_6 : ¬ (("i16" : Str) = ("i64" : Str)) := by decide +kernel
@[simp] theorem sx_4_7 : ¬ (("i16" : Str) = ("eq" : Str)) := by decide +kernel
@[simp] theorem sx_4_8 : ¬ (("i16" : Str) = ("ne" : Str)) := by decide +kernel
@[simp] theorem sx_4_9 : ¬ (("i16" : Str) = ("ult" : Str)) := by decide +kernel
@[simp] theorem sx_4_10 : ¬ (("i16" : Str) = ("uge" : Str)) := by decide +kernel
@[simp] theorem sx_4_11 : ¬ (("i16" : Str) = ("ule" : Str)) := by decide +kernel
@[simp] theorem sx_4_12 : ¬ (("i16" : Str) = ("ugt" : Str)) := by decide +kernel
@[simp] theorem sx_4_13 : ¬ (("i16" : Str) = ("slt" : Str)) := by decide +kernel
@[simp] theorem sx_4_14 : ¬ (("i16" : Str) = ("sge" : Str)) := by decide +kernel
@[simp] theorem sx_4_15 : ¬ (("i16" : Str) = ("sle" : Str)) := by decide +kernel
@[simp] theorem sx_4_16 : ¬ (("i16" : Str) = ("sgt" : Str)) := by decide +kernel
@[simp] theorem sx_4_17 : ¬ (("i16" : Str) = ("shl" : Str)) := by decide +kernel
@[simp] theorem sx_4_18 : ¬ (("i16" : Str) = ("lshr" : Str)) := by decide +kernel
@[simp] theorem sx_4_19 : ¬ (("i16" : Str) = ("udiv" : Str)) := by decide +kernel
@[simp] theorem sx_4_20 : ¬ (("i16" : Str) = ("urem" : Str)) := by decide +kernel
@[simp] theorem sx_4_21 : ¬ (("i16" : Str) = ("sdiv" : Str)) := by decide +kernel
@[simp] theorem sx_4_22 : ¬ (("i16" : Str) = ("add" : Str)) := by decide +kernel
@[simp] theorem sx_4_23 : ¬ (("i16" : Str) = ("sub" : Str)) := by decide +kernel
@[simp] theorem sx_4_24 : ¬ (("i16" : Str) = ("mul" : Str)) := by decide +kernel
@[simp] theorem sx_4_25 : ¬ (("i16" : Str) = ("and" : Str)) := by decide +kernel
@[simp] theorem sx_4_26 : ¬ (("i16" : Str) = ("or" : Str)) := by decide +kernel
@[simp] theorem sx_4_27 : ¬ (("i16" : Str) = ("xor" : Str)) := by decide +kernel
@[simp] theorem sx_4_28 : ¬ (("i16" : Str) = ("s" : Str)) := by decide +kernel
@[simp] theorem sx_4_29 : ¬ (("i16" : Str) = ("lt" : Str)) := by decide +kernel
@[simp] theorem sx_4_30 : ¬ (("i16" : Str) = ("le" : Str)) := by decide +kernel
@[simp] theorem sx_4_31 : ¬ (("i16" : Str) = ("gt" : Str)) := by decide +kernel
@[simp] theorem sx_4_32 : ¬ (("i16" : Str) = ("sext" : Str)) := by decide +kernel
@[simp] theorem sx_4_33 : ¬ (("i16" : Str) = ("ashr" : Str)) := by decide +kernel
@[simp] theorem sx_4_34 : ¬ (("i16" : Str) = ("ge" : Str)) := by decide +kernel
@[simp] theorem sx_5_0 : ¬ (("i32" : Str) = ("burnish.words" : Str)) := by decide +kernel
@[simp] theorem sx_5_1 : ¬ (("i32" : Str) = ("burnish.lattice" : Str)) := by decide +kernel
@[simp] theorem sx_5_2 : ¬ (("i32" : Str) = ("i1" : Str)) := by decide +kernel
@[simp] theorem sx_5_3 : ¬ (("i32" : Str) = ("i8" : Str)) := by decide +kernel
@[simp] theorem sx_5_4 : ¬ (("i32" : Str) = ("i16" : Str)) := by decide +kernel
@[simp] theorem sx_5_6 : ¬ (("i32" : Str) = ("i64" : Str)) := by decide +kernel
@[simp] theorem sx_5_7 : ¬ (("i32" : Str) = ("eq" : Str)) := by decide +kernel
@[simp] theorem sx_5_8 : ¬ (("i32" : Str) = ("ne" : Str)) := by decide +kernel
@[simp] theorem sx_5_9 : ¬ (("i32" : Str) = ("ult" : Str)) := by decide +kernel
@[simp] theorem sx_5_10 : ¬ (("i32" : Str) = ("uge" : Str)) := by decide +kernel
@[simp] theorem sx_5_11 : ¬ (("i32" : Str) = ("ule" : Str)) := by decide +kernel
@[simp] theorem sx_5_12 : ¬ (("i32" : Str) = ("ugt" : Str)) := by decide +kernel
@[simp] theorem sx_5_13 : ¬ (("i32" : Str) = ("slt" : Str)) := by decide +kernel
@[simp] theorem sx_5_14 : ¬ (("i32" : Str) = ("sge" : Str)) := by decide +kernel
@[simp] theorem sx_5_15 : ¬ (("i32" : Str) = ("sle" : Str)) := by decide +kernel
@[simp] theorem sx_5_16 : ¬ (("i32" : Str) = ("sgt" : Str)) := by decide +kernel
@[simp] theorem sx_5_17 : ¬ (("i32" : Str) = ("shl" : Str)) := by decide +kernel
@[simp] theorem sx_5_18 : ¬ (("i32" : Str) = ("lshr" : Str)) := by decide +kernel
@[simp] theorem sx_5_19 : ¬ (("i32" : Str) = ("udiv" : Str)) := by decide +kernel
@[simp] theorem sx_5_20 : ¬ (("i32" : Str) = ("urem" : Str)) := by decide +kernel
@[simp] theorem sx_5_21 : ¬ (("i32" : Str) = ("sdiv" : Str)) := by decide +kernel
@[simp] theorem sx_5_22 : ¬ (("i32" : Str) = ("add" : Str)) := by decide +kernel
@[simp] theorem sx_5_23 : ¬ (("i32" : Str) = ("sub" : Str)) := by decide +kernel
@[simp] theorem sx_5_24 : ¬ (("i32" : Str) = ("mul" : Str)) := by decide +kernel
@[simp] theorem sx_5_25 : ¬ (("i32" : Str) = ("and" : Str)) := by decide +kernel
@[simp] theorem sx_5_26 : ¬ (("i32" : Str) = ("or" : Str)) := by decide +kernel
@[simp] theorem sx_5_27 : ¬ (("i32" : Str) = ("xor" : Str)) := by decide +kernel
@[simp] theorem sx_5_28 : ¬ (("i32" : Str) = ("s" : Str)) := by decide +kernel
@[simp] theorem sx_5_29 : ¬ (("i32" : Str) = ("lt" : Str)) := by decide +kernel
@[simp] theorem sx_5_30 : ¬ (("i32" : Str) = ("le" : Str)) := by decide +kernel
@[simp] theorem sx_5_31 : ¬ (("i32" : Str) = ("gt" : Str)) := by decide +kernel
@[simp] theorem sx_5_32 : ¬ (("i32" : Str) = ("sext" : Str)) := by decide +kernel
@[simp] theorem sx_5_33 : ¬ (("i32" : Str) = ("ashr" : Str)) := by decide +kernel
@[simp] theorem sx_5_34 : ¬ (("i32" : Str) = ("ge" : Str)) := by decide +kernel
@[simp] theorem sx_6_0 : ¬ (("i64" : Str) = ("burnish.words" : Str)) := by decide +kernel
@[simp] theorem sx_6_1 : ¬ (("i64" : Str) = ("burnish.lattice" : Str)) := by decide +kernel
@[simp] theorem sx_6_2 : ¬ (("i64" : Str) = ("i1" : Str)) := by decide +kernel
@[simp] theorem sx_6_3 : ¬ (("i64" : Str) = ("i8" : Str)) := by decide +kernel
@[simp] theorem sx_6_4 : ¬ (("i64" : Str) = ("i16" : Str)) := by decide +kernel
@[simp] theorem sx_6_5 : ¬ (("i64" : Str) = ("i32" : Str)) := by decide +kernel
@[simp] theorem sx_6_7 : ¬ (("i64" : Str) = ("eq" : Str)) := by decide +kernel
@[simp] theorem sx_6_8 : ¬ (("i64" : Str) = ("ne" : Str)) := by decide +kernel
@[simp] theorem sx_6_9 : ¬ (("i64" : Str) = ("ult" : Str)) := by decide +kernel
@[simp] theorem sx_6_10 : ¬ (("i64" : Str) = ("uge" : Str)) := by decide +kernel
@[simp] theorem sx_6_11 : ¬ (("i64" : Str) = ("ule" : Str)) := by decide +kernel
@[simp] theorem sx_6_12 : ¬ (("i64" : Str) = ("ugt" : Str)) := by decide +kernel
@[simp] theorem sx_6_13 : ¬ (("i64" : Str) = ("slt" : Str)) := by decide +kernel
@[simp] theorem sx_6_14 : ¬ (("i64" : Str) = ("sge" : Str)) := by decide +kernel
@[simp] theorem sx_6_15 : ¬ (("i64" : Str) = ("sle" : Str)) := by decide +kernel
@[simp] theorem sx_6_16 : ¬ (("i64" : Str) = ("sgt" : Str)) := by decide +kernel
@[simp] theorem sx_6_17 : ¬ (("i64" : Str) = ("shl" : Str)) := by decide +kernel
@[simp] theorem sx_6_18 : ¬ (("i64" : Str) = ("lshr" : Str)) := by decide +kernel
@[simp] theorem sx_6_19 : ¬ (("i64" : Str) = ("udiv" : Str)) := by decide +kernel
@[simp] theorem sx_6_20 : ¬ (("i64" : Str) = ("urem" : Str)) := by decide +kernel
@[simp] theorem sx_6_21 : ¬ (("i64" : Str) = ("sdiv" : Str)) := by decide +kernel
@[simp] theorem sx_6_22 : ¬ (("i64" : Str) = ("add" : Str)) := by decide +kernel
@[simp] theorem sx_6_23 : ¬ (("i64" : Str) = ("sub" : Str)) := by decide +kernel
@[simp] theorem sx_6_24 : ¬ (("i64" : Str) = ("mul" : Str)) := by decide +kernel
@[simp] theorem sx_6_25 : ¬ (("i64" : Str) = ("and" : Str)) := by decide +kernel
@[simp] theorem sx_6_26 : ¬ (("i64" : Str) = ("or" : Str)) := by decide +kernel
@[simp] theorem sx_6_27 : ¬ (("i64" : Str) = ("xor" : Str)) := by decide +kernel
@[simp] theorem sx_6_28 : ¬ (("i64" : Str) = ("s" : Str)) := by decide +kernel
@[simp] theorem sx_6_29 : ¬ (("i64" : Str) = ("lt" : Str)) := by decide +kernel
@[simp] theorem sx_6_30 : ¬ (("i64" : Str) = ("le" : Str)) := by decide +kernel
@[simp] theorem sx_6_31 : ¬ (("i64" : Str) = ("gt" : Str)) := by decide +kernel
@[simp] theorem sx_6_32 : ¬ (("i64" : Str) = ("sext" : Str)) := by decide +kernel
@[simp] theorem sx_6_33 : ¬ (("i64" : Str) = ("ashr" : Str)) := by decide +kernel
@[simp] theorem sx_6_34 : ¬ (("i64" : Str) = ("ge" : Str)) := by decide +kernel
@[simp] theorem sx_7_0 : ¬ (("eq" : Str) = ("burnish.words" : Str)) := by decide +kernel
@[simp] theorem sx_7_1 : ¬ (("eq" : Str) = ("burnish.lattice" : Str)) := by decide +kernel
@[simp] theorem sx_7_2 : ¬ (("eq" : Str) = ("i1" : Str)) := by decide +kernel
@[simp] theorem sx_7_3 : ¬ (("eq" : Str) = ("i8" : Str)) := by decide +kernel
@[simp] theorem sx_7_4 : ¬ (("eq" : Str) = ("i16" : Str)) := by decide +kernel
@[simp] theorem sx_7_5 : ¬ (("eq" : Str) = ("i32" : Str)) := by decide +kernel
@[simp] theorem sx_7_6 : ¬ (("eq" : Str) = ("i64" : Str)) := by decide +kernel
@[simp] theorem sx_7_8 : ¬ (("eq" : Str) = ("ne" : Str)) := by decide +kernel
@[simp] theorem sx_7_9 : ¬ (("eq" : Str) = ("ult" : Str)) := by decide +kernel
@[simp] theorem sx_7_10 : ¬ (("eq" : Str) = ("uge" : Str)) := by decide +kernel
@[simp] theorem sx_7_11 : ¬ (("eq" : Str) = ("ule" : Str)) := by decide +kernel
@[simp] theorem sx_7_12 : ¬ (("eq" : Str) = ("ugt" : Str)) := by decide +kernel
@[simp] theorem sx_7_13 : ¬ (("eq" : Str) = ("slt" : Str)) := by decide +kernel
@[simp] theorem sx_7_14 : ¬ (("eq" : Str) = ("sge" : Str)) := by decide +kernel
@[simp] theorem sx_7_15 : ¬ (("eq" : Str) = ("sle" : Str)) := by decide +kernel
@[simp] theorem sx_7_16 : ¬ (("eq" : Str) = ("sgt" : Str)) := by decide +kernel
@[simp] theorem sx_7_17 : ¬ (("eq" : Str) = ("shl" : Str)) := by decide +kernel
@[simp] theorem sx_7_18 : ¬ (("eq" : Str) = ("lshr" : Str)) := by decide +kernel
@[simp] theorem sx_7_19 : ¬ (("eq" : Str) = ("udiv" : Str)) := by decide +kernel
@[simp] theorem sx_7_20 : ¬ (("eq" : Str) = ("urem" : Str)) := by decide +kernel
@[simp] theorem sx_7_21 : ¬ (("eq" : Str) = ("sdiv" : Str)) := by decide +kernel
@[simp] theorem sx_7_22 : ¬ (("eq" : Str) = ("add" : Str)) := by decide +kernel
@[simp] theorem sx_7_23 : ¬ (("eq" : Str) = ("sub" : Str)) := by decide +kernel
@[simp] theorem sx_7_24 : ¬ (("eq" : Str) = ("mul" : Str)) := by decide +kernel
@[simp] theorem sx_7_25 : ¬ (("eq" : Str) = ("and" : Str)) := by decide +kernel
@[simp] theorem sx_7_26 : ¬ (("eq" : Str) = ("or" : Str)) := by decide +kernel
@[simp] theorem sx_7_27 : ¬ (("eq" : Str) = ("xor" : Str)) := by decide +kernel
@[simp] theorem sx_7_28 : ¬ (("eq" : Str) = ("s" : Str)) := by decide +kernel
@[simp] theorem sx_7_29 : ¬ (("eq" : Str) = ("lt" : Str)) := by decide +kernel
@[simp] theorem sx_7_30 : ¬ (("eq" : Str) = ("le" : Str)) := by decide +kernel
@[simp] theorem sx_7_31 : ¬ (("eq" : Str) = ("gt" : Str)) := by decide +kernel
@[simp] theorem sx_7_32 : ¬ (("eq" : Str) = ("sext" : Str)) := by decide +kernel
@[simp] theorem sx_7_33 : ¬ (("eq" : Str) = ("ashr" : Str)) := by decide +kernel
@[simp] theorem sx_7_34 : ¬ (("eq" : Str) = ("ge" : Str)) := by decide +kernel
@[simp] theorem sx_8_0 : ¬ (("ne" : Str) = ("burnish.words" : Str)) := by decide +kernel
@[simp] theorem sx_8_1 : ¬ (("ne" : Str) = ("burnish.lattice" : Str)) := by decide +kernel
@[simp] theorem sx_8_2 : ¬ (("ne" : Str) = ("i1" : Str)) := by decide +kernel
@[simp] theorem sx_8_3 : ¬ (("ne" : Str) = ("i8" : Str)) := by decide +kernel
@[simp] theorem sx_8_4 : ¬ (("ne" : Str) = ("i16" : Str)) := by decide +kernel
@[simp] theorem sx_8_5 : ¬ (("ne" : Str) = ("i32" : Str)) := by decide +kernel
@[simp] theorem sx_8_6 : ¬ (("ne" : Str) = ("i64" : Str)) := by decide +kernel
@[simp] theorem sx_8_7 : ¬ (("ne" : Str) = ("eq" : Str)) := by decide +kernel
@[simp] theorem sx_8_9 : ¬ (("ne" : Str) = ("ult" : Str)) := by decide +kernel
@[simp] theorem sx_8_10 : ¬ (("ne" : Str) = ("uge" : Str)) := by decide +kernel
@[simp] theorem sx_8_11 : ¬ (("ne" : Str) = ("ule" : Str)) := by decide +kernel
@[simp] theorem sx_8_12 : ¬ (("ne" : Str) = ("ugt" : Str)) := by decide +kernel
@[simp] theorem sx_8_13 : ¬ (("ne" : Str) = ("slt" : Str)) := by decide +kernel
@[simp] theorem sx_8_14 : ¬ (("ne" : Str) = ("sge" : Str)) := by decide +kernel
@[simp] theorem sx_8_15 : ¬ (("ne" : Str) = ("sle" : Str)) := by decide +kernel
@[simp] theorem sx_8_16 : ¬ (("ne" : Str) = ("sgt" : Str)) := by decide +kernel
@[simp] theorem sx_8_17 : ¬ (("ne" : Str) = ("shl" : Str)) := by decide +kernel
@[simp] theorem sx_8_18 : ¬ (("ne" : Str) = ("lshr" : Str)) := by decide +kernel
@[simp] theorem sx_8_19 : ¬ (("ne" : Str) = ("udiv" : Str)) := by decide +kernel
@[simp] theorem sx_8_20 : ¬ (("ne" : Str) = ("urem" : Str)) := by decide +kernel
@[simp] theorem sx_8_21 : ¬ (("ne" : Str) = ("sdiv" : Str)) := by decide +kernel
@[simp] theorem sx_8_22 : ¬ (("ne" : Str) = ("add" : Str)) := by decide +kernel
@[simp] theorem sx_8_23 : ¬ (("ne" : Str) = ("sub" : Str)) := by decide +kernel
@[simp] theorem sx_8_24 : ¬ (("ne" : Str) = ("mul" : Str)) := by decide +kernel
@[simp] theorem sx_8_25 : ¬ (("ne" : Str) = ("and" : Str)) := by decide +kernel
@[simp] theorem sx_8_26 : ¬ (("ne" : Str) = ("or" : Str)) := by decide +kernel
@[simp] theorem sx_8_27 : ¬ (("ne" : Str) = ("xor" : Str)) := by decide +kernel
@[simp] theorem sx_8_28 : ¬ (("ne" : Str) = ("s" : Str)) := by decide +kernel
@[simp] theorem sx_8_29 : ¬ (("ne" : Str) = ("lt" : Str)) := by decide +kernel
@[simp] theorem sx_8_30 : ¬ (("ne" : Str) = ("le" : Str)) := by decide +kernel
@[simp] theorem sx_8_31 : ¬ (("ne" : Str) = ("gt" : Str)) := by decide +kernel
@[simp] theorem sx_8_32 : ¬ (("ne" : Str) = ("sext" : Str)) := by decide +kernel
@[simp] theorem sx_8_33 : ¬ (("ne" : Str) = ("ashr" : Str)) := by decide +kernel
@[simp] theorem sx_8_34 : ¬ (("ne" : Str) = ("ge" : Str)) := by decide +kernel
@[simp] theorem sx_9_0 : ¬ (("ult" : Str) = ("burnish.words" : Str)) := by decide +kernel
@[simp] theorem sx_9_1 : ¬ (("ult" : Str) = ("burnish.lattice" : Str)) := by decide +kernel
@[simp] theorem sx_9_2 : ¬ (("ult" : Str) = ("i1" : Str)) := by decide +kernel
@[simp] theorem sx_9_3 : ¬ (("ult" : Str) = ("i8" : Str)) := by decide +kernel
@[simp] theorem sx_9_4 : ¬ (("ult" : Str) = ("i16" : Str)) := by decide +kernel
@[simp] theorem sx_9_5 : ¬ (("ult" : Str) = ("i32" : Str)) := by decide +kernel
@[simp] theorem sx_9_6 : ¬ (("ult" : Str) = ("i64" : Str)) := by decide +kernel
@[simp] theorem sx_9_7 : ¬ (("ult" : Str) = ("eq" : Str)) := by decide +kernel
@[simp] theorem sx_9_8 : ¬ (("ult" : Str) = ("ne" : Str)) := by decide +kernel
@[simp] theorem sx_9_10 : ¬ (("ult" : Str) = ("uge" : Str)) := by decide +kernel
@[simp] theorem sx_9_11 : ¬ (("ult" : Str) = ("ule" : Str)) := by decide +kernel
@[simp] theorem sx_9_12 : ¬ (("ult" : Str) = ("ugt" : Str)) := by decide +kernel
@[simp] theorem sx_9_13 : ¬ (("ult" : Str) = ("slt" : Str)) := by decide +kernel
@[simp] theorem sx_9_14 : ¬ (("ult" : Str) = ("sge" : Str)) := by decide +kernel
@[simp] theorem sx_9_15 : ¬ (("ult" : Str) = ("sle" : Str)) := by decide +kernel
@[simp] theorem sx_9_16 : ¬ (("ult" : Str) = ("sgt" : Str)) := by decide +kernel
@[simp] theorem sx_9_17 : ¬ (("ult" : Str) = ("shl" : Str)) := by decide +kernel
@[simp] theorem sx_9_18 : ¬ (("ult" : Str) = ("lshr" : Str)) := by decide +kernel
@[simp] theorem sx_9_19 : ¬ (("ult" : Str) = ("udiv" : Str)) := by decide +kernel
@[simp] theorem sx_9_20 : ¬ (("ult" : Str) = ("urem" : Str)) := by decide +kernel
@[simp] theorem sx_9_21 : ¬ (("ult" : Str) = ("sdiv" : Str)) := by decide +kernel
@[simp] theorem sx_9_22 : ¬ (("ult" : Str) = ("add" : Str)) := by decide +kernel
@[simp] theorem sx_9_23 : ¬ (("ult" : Str) = ("sub" : Str)) := by decide +kernel
@[simp] theorem sx_9_24 : ¬ (("ult" : Str) = ("mul" : Str)) := by decide +kernel
@[simp] theorem sx_9_25 : ¬ (("ult" : Str) = ("and" : Str)) := by decide +kernel
@[simp] theorem sx_9_26 : ¬ (("ult" : Str) = ("or" : Str)) := by decide +kernel
@[simp] theorem sx_9_27 : ¬ (("ult" : Str) = ("xor" : Str)) := by decide +kernel
@[simp] theorem sx_9_28 : ¬ (("ult" : Str) = ("s" : Str)) := by decide +kernel
@[simp] theorem sx_9_29 : ¬ (("ult" : Str) = ("lt" : Str)) := by decide +kernel
@[simp] theorem sx_9_30 : ¬ (("ult" : Str) = ("le" : Str)) := by decide +kernel
@[simp] theorem sx_9_31 : ¬ (("ult" : Str) = ("gt" : Str)) := by decide +kernel
@[simp] theorem sx_9_32 : ¬ (("ult" : Str) = ("sext" : Str)) := by decide +kernel
@[simp] theorem sx_9_33 : ¬ (("ult" : Str) = ("ashr" : Str)) := by decide +kernel
@[simp] theorem sx_9_34 : ¬ (("ult" : Str) = ("ge" : Str)) := by decide +kernel
@[simp] theorem sx_10_0 : ¬ (("uge" : Str) = ("burnish.words" : Str)) := by decide +kernel
@[simp] theorem sx_10_1 : ¬ (("uge" : Str) = ("burnish.lattice" : Str)) := by decide +kernel
@[simp] theorem sx_10_2 : ¬ (("uge" : Str) = ("i1" : Str)) := by decide +kernel
@[simp] theorem sx_10_3 : ¬ (("uge" : Str) = ("i8" : Str)) := by decide +kernel
@[simp] theorem sx_10_4 : ¬ (("uge" : Str) = ("i16" : Str)) := by decide +kernel
@[simp] theorem sx_10_5 : ¬ (("uge" : Str) = ("i32" : Str)) := by decide +kernel
@[simp] theorem sx_10_6 : ¬ (("uge" : Str) = ("i64" : Str)) := by decide +kernel
@[simp] theorem sx_10_7 : ¬ (("uge" : Str) = ("eq" : Str)) := by decide +kernel
@[simp] theorem sx_10_8 : ¬ (("uge" : Str) = ("ne" : Str)) := by decide +kernel
@[simp] theorem sx_10_9 : ¬ (("uge" : Str) = ("ult" : Str)) := by decide +kernel
@[simp] theorem sx_10_11 : ¬ (("uge" : Str) = ("ule" : Str)) := by decide +kernel
@[simp] theorem sx_10_12 : ¬ (("uge" : Str) = ("ugt" : Str)) := by decide +kernel
@[simp] theorem sx_10_13 : ¬ (("uge" : Str) = ("slt" : Str)) := by decide +kernel
@[simp] theorem sx_10_14 : ¬ (("uge" : Str) = ("sge" : Str)) := by decide +kernel
@[simp] theorem sx_10_15 : ¬ (("uge" : Str) = ("sle" : Str)) := by decide +kernel
@[simp] theorem sx_10_16 : ¬ (("uge" : Str) = ("sgt" : Str)) := by decide +kernel
@[simp] theorem sx_10_17 : ¬ (("uge" : Str) = ("shl" : Str)) := by decide +kernel
@[simp] theorem sx_10_18 : ¬ (("uge" : Str) = ("lshr" : Str)) := by decide +kernel
@[simp] theorem sx_10_19 : ¬ (("uge" : Str) = ("udiv" : Str)) := by decide +kernel
@[simp] theorem sx_10_20 : ¬ (("uge" : Str) = ("urem" : Str)) := by decide +kernel
@[simp] theorem sx_10_21 : ¬ (("uge" : Str) = ("sdiv" : Str)) := by decide +kernel
@[simp] theorem sx_10_22 : ¬ (("uge" : Str) = ("add" : Str)) := by decide +kernel
@[simp] theorem sx_10_23 : ¬ (("uge" : Str) = ("sub" : Str)) := by decide +kernel
@[simp] theorem sx_10_24 : ¬ (("uge" : Str) = ("mul" : Str)) := by decide +kernel
@[simp] theorem sx_10_25 : ¬ (("uge" : Str) = ("and" : Str)) := by decide +kernel
@[simp] theorem sx_10_26 : ¬ (("uge" : Str) = ("or" : Str)) := by decide +kernel
@[simp] theorem sx_10_27 : ¬ (("uge" : Str) = ("xor" : Str)) := by decide +kernel
@[simp] theorem sx_10_28 : ¬ (("uge" : Str) = ("s" : Str)) := by decide +kernel
@[simp] theorem sx_10_29 : ¬ (("uge" : Str) = ("lt" : Str)) := by decide +kernel
@[simp] theorem sx_10_30 : ¬ (("uge" : Str) = ("le" : Str)) := by decide +kernel
@[simp] theorem sx_10_31 : ¬ (("uge" : Str) = ("gt" : Str)) := by decide +kernel
@[simp] theorem sx_10_32 : ¬ (("uge" : Str) = ("sext" : Str)) := by decide +kernel
@[simp] theorem sx_10_33 : ¬ (("uge" : Str) = ("ashr" : Str)) := by decide +kernel
@[simp] theorem sx_10_34 : ¬ (("uge" : Str) = ("ge" : Str)) := by decide +kernel
@[simp] theorem sx_11_0 : ¬ (("ule" : Str) = ("burnish.words" : Str)) := by decide +kernel
@[simp] theorem sx_11_1 : ¬ (("ule" : Str) = ("burnish.lattice" : Str)) := by decide +kernel
@[simp] theorem sx_11_2 : ¬ (("ule" : Str) = ("i1" : Str)) := by decide +kernel
@[simp] theorem sx_11_3 : ¬ (("ule" : Str) = ("i8" : Str)) := by decide +kernel
@[simp] theorem sx_11_4 : ¬ (("ule" : Str) = ("i16" : Str)) := by decide +kernel
@[simp] theorem sx_11_5 : ¬ (("ule" : Str) = ("i32" : Str)) := by decide +kernel
@[simp] theorem sx_11_6 : ¬ (("ule" : Str) = ("i64" : Str)) := by decide +kernel
@[simp] theorem sx_11_7 : ¬ (("ule" : Str) = ("eq" : Str)) := by decide +kernel
@[simp] theorem sx_11_8 : ¬ (("ule" : Str) = ("ne" : Str)) := by decide +kernel
@[simp] theorem sx_11_9 : ¬ (("ule" : Str) = ("ult" : Str)) := by decide +kernel
@[simp] theorem sx_11_10 : ¬ (("ule" : Str) = ("uge" : Str)) := by decide +kernel
@[simp] theorem sx_11_12 : ¬ (("ule" : Str) = ("ugt" : Str)) := by decide +kernel
@[simp] theorem sx_11_13 : ¬ (("ule" : Str) = ("slt" : Str)) := by decide +kernel
@[simp] theorem sx_11_14 : ¬ (("ule" : Str) = ("sge" : Str)) := by decide +kernel
@[simp] theorem sx_11_15 : ¬ (("ule" : Str) = ("sle" : Str)) := by decide +kernel
@[simp] theorem sx_11_16 : ¬ (("ule" : Str) = ("sgt" : Str)) := by decide +kernel
@[simp] theorem sx_11_17 : ¬ (("ule" : Str) = ("shl" : Str)) := by decide +kernel
@[simp] theorem sx_11_18 : ¬ (("ule" : Str) = ("lshr" : Str)) := by decide +kernel
@[simp] theorem sx_11_19 : ¬ (("ule" : Str) = ("udiv" : Str)) := by decide +kernel
@[simp] theorem sx_11_20 : ¬ (("ule" : Str) = ("urem" : Str)) := by decide +kernel
@[simp] theorem sx_11_21 : ¬ (("ule" : Str) = ("sdiv" : Str)) := by decide +kernel
@[simp] theorem sx_11_22 : ¬ (("ule" : Str) = ("add" : Str)) := by decide +kernel
@[simp] theorem sx_11_23 : ¬ (("ule" : Str) = ("sub" : Str)) := by decide +kernel
@[simp] theorem sx_11_24 : ¬ (("ule" : Str) = ("mul" : Str)) := by decide +kernel
@[simp] theorem sx_11_25 : ¬ (("ule" : Str) = ("and" : Str)) := by decide +kernel
@[simp] theorem sx_11_26 : ¬ (("ule" : Str) = ("or" : Str)) := by decide +kernel
@[simp] theorem sx_11_27 : ¬ (("ule" : Str) = ("xor" : Str)) := by decide +kernel
@[simp] theorem sx_11_28 : ¬ (("ule" : Str) = ("s" : Str)) := by decide +kernel
@[simp] theorem sx_11_29 : ¬ (("ule" : Str) = ("lt" : Str)) := by decide +kernel
@[simp] theorem sx_11_30 : ¬ (("ule" : Str) = ("le" : Str)) := by decide +kernel
@[simp] theorem sx_11_31 : ¬ (("ule" : Str) = ("gt" : Str)) := by decide +kernel
@[simp] theorem sx_11_32 : ¬ (("ule" : Str) = ("sext" : Str)) := by decide +kernel
@[simp] theorem sx_11_33 : ¬ (("ule" : Str) = ("ashr" : Str)) := by decide +kernel
@[simp] theorem sx_11_34 : ¬ (("ule" : Str) = ("ge" : Str)) := by decide +kernel
@[simp] theorem sx_12_0 : ¬ (("ugt" : Str) = ("burnish.words" : Str)) := by decide +kernel
@[simp] theorem sx_12_1 : ¬ (("ugt" : Str) = ("burnish.lattice" : Str)) := by decide +kernel
@[simp] theorem sx_12_2 : ¬ (("ugt" : Str) = ("i1" : Str)) := by decide +kernel
@[simp] theorem sx_12_3 : ¬ (("ugt" : Str) = ("i8" : Str)) := by decide +kernel
@[simp] theorem sx_12_4 : ¬ (("ugt" : Str) = ("i16" : Str)) := by decide +kernel
@[simp] theorem sx_12_5 : ¬ (("ugt" : Str) = ("i32" : Str)) := by decide +kernel
@[simp] theorem sx_12_6 : ¬ (("ugt" : Str) = ("i64" : Str)) := by decide +kernel
@[simp] theorem sx_12_7 : ¬ (("ugt" : Str) = ("eq" : Str)) := by decide +kernel
@[simp] theorem sx_12_8 : ¬ (("ugt" : Str) = ("ne" : Str)) := by decide +kernel
@[simp] theorem sx_12_9 : ¬ (("ugt" : Str) = ("ult" : Str)) := by decide +kernel
@[simp] theorem sx_12_10 : ¬ (("ugt" : Str) = ("uge" : Str)) := by decide +kernel
@[simp] theorem sx_12_11 : ¬ (("ugt" : Str) = ("ule" : Str)) := by decide +kernel
@[simp] theorem sx_12_13 : ¬ (("ugt" : Str) = ("slt" : Str)) := by decide +kernel
@[simp] theorem sx_12_14 : ¬ (("ugt" : Str) = ("sge" : Str)) := by decide +kernel
@[simp] theorem sx_12_15 : ¬ (("ugt" : Str) = ("sle" : Str)) := by decide +kernel
@[simp] theorem sx_12_16 : ¬ (("ugt" : Str) = ("sgt" : Str)) := by decide +kernel
@[simp] theorem sx_12_17 : ¬ (("ugt" : Str) = ("shl" : Str)) := by decide +kernel
@[simp] theorem sx_12_18 : ¬ (("ugt" : Str) = ("lshr" : Str)) := by decide +kernel
@[simp] theorem sx_12_19 : ¬ (("ugt" : Str) = ("udiv" : Str)) := by decide +kernel
@[simp] theorem sx_12_20 : ¬ (("ugt" : Str) = ("urem" : Str)) := by decide +kernel
@[simp] theorem sx_12_21 : ¬ (("ugt" : Str) = ("sdiv" : Str)) := by decide +kernel
@[simp] theorem sx_12_22 : ¬ (("ugt" : Str) = ("add" : Str)) := by decide +kernel
@[simp] theorem sx_12_23 : ¬ (("ugt" : Str) = ("sub" : Str)) := by decide +kernel
@[simp] theorem sx_12_24 : ¬ (("ugt" : Str) = ("mul" : Str)) := by decide +kernel
@[simp] theorem sx_12_25 : ¬ (("ugt" : Str) = ("and" : Str)) := by decide +kernel
@[simp] theorem sx_12_26 : ¬ (("ugt" : Str) = ("or" : Str)) := by decide +kernel
@[simp] theorem sx_12_27 : ¬ (("ugt" : Str) = ("xor" : Str)) := by decide +kernel
@[simp] theorem sx_12_28 : ¬ (("ugt" : Str) = ("s" : Str)) := by decide +kernel
@[simp] theorem sx_12_29 : ¬ (("ugt" : Str) = ("lt" : Str)) := by decide +kernel
@[simp] theorem sx_12_30 : ¬ (("ugt" : Str) = ("le" : Str)) := by decide +kernel
@[simp] theorem sx_12_31 : ¬ (("ugt" : Str) = ("gt" : Str)) := by decide +kernel
@[simp] theorem sx_12_32 : ¬ (("ugt" : Str) = ("sext" : Str)) := by decide +kernel
@[simp] theorem sx_12_33 : ¬ (("ugt" : Str) = ("ashr" : Str)) := by decide +kernel
@[simp] theorem sx_12_34 : ¬ (("ugt" : Str) = ("ge" : Str)) := by decide +kernel
@[simp] theorem sx_13_0 : ¬ (("slt" : Str) = ("burnish.words" : Str)) := by decide +kernel
@[simp] theorem sx_13_1 : ¬ (("slt" : Str) = ("burnish.lattice" : Str)) := by decide +kernel
@[simp] theorem sx_13_2 : ¬ (("slt" : Str) = ("i1" : Str)) := by decide +kernel
@[simp] theorem sx_13_3 : ¬ (("slt" : Str) = ("i8" : Str)) := by decide +kernel
@[simp] theorem sx_13_4 : ¬ (("slt" : Str) = ("i16" : Str)) := by decide +kernel
@[simp] theorem sx_13_5 : ¬ (("slt" : Str) = ("i32" : Str)) := by decide +kernel
@[simp] theorem sx_13_6 : ¬ (("slt" : Str) = ("i64" : Str)) := by decide +kernel
@[simp] theorem sx_13_7 : ¬ (("slt" : Str) = ("eq" : Str)) := by decide +kernel
@[simp] theorem sx_13_8 : ¬ (("slt" : Str) = ("ne" : Str)) := by decide +kernel
@[simp] theorem sx_13_9 : ¬ (("slt" : Str) = ("ult" : Str)) := by decide +kernel
@[simp] theorem sx_13_10 : ¬ (("slt" : Str) = ("uge" : Str)) := by decide +kernel
@[simp] theorem sx_13_11 : ¬ (("slt" : Str) = ("ule" : Str)) := by decide +kernel
@[simp] theorem sx_13_12 : ¬ (("slt" : Str) = ("ugt" : Str)) := by decide +kernel
@[simp] theorem sx_13_14 : ¬ (("slt" : Str) = ("sge" : Str)) := by decide +kernel
@[simp] theorem sx_13_15 : ¬ (("slt" : Str) = ("sle" : Str)) := by decide +kernel
@[simp] theorem sx_13_16 : ¬ (("slt" : Str) = ("sgt" : Str)) := by decide +kernel
@[simp] theorem sx_13_17 : ¬ (("slt" : Str) = ("shl" : Str)) := by decide +kernel
@[simp] theorem sx_13_18 : ¬ (("slt" : Str) = ("lshr" : Str)) := by decide +kernel
@[simp] theorem sx_13_19 : ¬ (("slt" : Str) = ("udiv" : Str)) := by decide +kernel
@[simp] theorem sx_13_20 : ¬ (("slt" : Str) = ("urem" : Str)) := by decide +kernel
@[simp] theorem sx_13_21 : ¬ (("slt" : Str) = ("sdiv" : Str)) := by decide +kernel
@[simp] theorem sx_13_22 : ¬ (("slt" : Str) = ("add" : Str)) := by decide +kernel
@[simp] theorem sx_13_23 : ¬ (("slt" : Str) = ("sub" : Str)) := by decide +kernel
@[simp] theorem sx_13_24 : ¬ (("slt" : Str) = ("mul" : Str)) := by decide +kernel
@[simp] theorem sx_13_25 : ¬ (("slt" : Str) = ("and" : Str)) := by decide +kernel
@[simp] theorem sx_13_26 : ¬ (("slt" : Str) = ("or" : Str)) := by decide +kernel
@[simp] theorem sx_13_27 : ¬ (("slt" : Str) = ("xor" : Str)) := by decide +kernel
@[simp] theorem sx_13_28 : ¬ (("slt" : Str) = ("s" : Str)) := by decide +kernel
@[simp] theorem sx_13_29 : ¬ (("slt" : Str) = ("lt" : Str)) := by decide +kernel
@[simp] theorem sx_13_30 : ¬ (("slt" : Str) = ("le" : Str)) := by decide +kernel
@[simp] theorem sx_13_31 : ¬ (("slt" : Str) = ("gt" : Str)) := by decide +kernel
@[simp] theorem sx_13_32 : ¬ (("slt" : Str) = ("sext" : Str)) := by decide +kernel
@[simp] theorem sx_13_33 : ¬ (("slt" : Str) = ("ashr" : Str)) := by decide +kernel
@[simp] theorem sx_13_34 : ¬ (("slt" : Str) = ("ge" : Str)) := by decide +kernel
@[simp] theorem sx_14_0 : ¬ (("sge" : Str) = ("burnish.words" : Str)) := by decide +kernel
@[simp] theorem sx_14_1 : ¬ (("sge" : Str) = ("burnish.lattice" : Str)) := by decide +kernel
@[simp] theorem sx_14_2 : ¬ (("sge" : Str) = ("i1" : Str)) := by decide +kernel
@[simp] theorem sx_14_3 : ¬ (("sge" : Str) = ("i8" : Str)) := by decide +kernel
@[simp] theorem sx_14_4 : ¬ (("sge" : Str) = ("i16" : Str)) := by decide +kernel
@[simp] theorem sx_14_5 : ¬ (("sge" : Str) = ("i32" : Str)) := by decide +kernel
@[simp] theorem sx_14_6 : ¬ (("sge" : Str) = ("i64" : Str)) := by decide +kernel
@[simp] theorem sx_14_7 : ¬ (("sge" : Str) = ("eq" : Str)) := by decide +kernel
@[simp] theorem sx_14_8 : ¬ (("sge" : Str) = ("ne" : Str)) := by decide +kernel
@[simp] theorem sx_14_9 : ¬ (("sge" : Str) = ("ult" : Str)) := by decide +kernel
@[simp] theorem sx_14_10 : ¬ (("sge" : Str) = ("uge" : Str)) := by decide +kernel
@[simp] theorem sx_14_11 : ¬ (("sge" : Str) = ("ule" : Str)) := by decide +kernel
@[simp] theorem sx_14_12 : ¬ (("sge" : Str) = ("ugt" : Str)) := by decide +kernel
@[simp] theorem sx_14_13 : ¬ (("sge" : Str) = ("slt" : Str)) := by decide +kernel
@[simp] theorem sx_14_15 : ¬ (("sge" : Str) = ("sle" : Str)) := by decide +kernel
@[simp] theorem sx_14_16 : ¬ (("sge" : Str) = ("sgt" : Str)) := by decide +kernel
@[simp] theorem sx_14_17 : ¬ (("sge" : Str) = ("shl" : Str)) := by decide +kernel
@[simp] theorem sx_14_18 : ¬ (("sge" : Str) = ("lshr" : Str)) := by decide +kernel
@[simp] theorem sx_14_19 : ¬ (("sge" : Str) = ("udiv" : Str)) := by decide +kernel
@[simp] theorem sx_14_20 : ¬ (("sge" : Str) = ("urem" : Str)) := by decide +kernel
@[simp] theorem sx_14_21 : ¬ (("sge" : Str) = ("sdiv" : Str)) := by decide +kernel
@[simp] theorem sx_14_22 : ¬ (("sge" : Str) = ("add" : Str)) := by decide +kernel
@[simp] theorem sx_14_23 : ¬ (("sge" : Str) = ("sub" : Str)) := by decide +kernel
@[simp] theorem sx_14_24 : ¬ (("sge" : Str) = ("mul" : Str)) := by decide +kernel
@[simp] theorem sx_14_25 : ¬ (("sge" : Str) = ("and" : Str)) := by decide +kernel
@[simp] theorem sx_14_26 : ¬ (("sge" : Str) = ("or" : Str)) := by decide +kernel
@[simp] theorem sx_14_27 : ¬ (("sge" : Str) = ("xor" : Str)) := by decide +kernel
@[simp] theorem sx_14_28 : ¬ (("sge" : Str) = ("s" : Str)) := by decide +kernel
@[simp] theorem sx_14_29 : ¬ (("sge" : Str) = ("lt" : Str)) := by decide +kernel
@[simp] theorem sx_14_30 : ¬ (("sge" : Str) = ("le" : Str)) := by decide +kernel
@[simp] theorem sx_14_31 : ¬ (("sge" : Str) = ("gt" : Str)) := by decide +kernel
@[simp] theorem sx_14_32 : ¬ (("sge" : Str) = ("sext" : Str)) := by decide +kernel
@[simp] theorem sx_14_33 : ¬ (("sge" : Str) = ("ashr" : Str)) := by decide +kernel
@[simp] theorem sx_14_34 : ¬ (("sge" : Str) = ("ge" : Str)) := by decide +kernel
@[simp] theorem sx_15_0 : ¬ (("sle" : Str) = ("burnish.words" : Str)) := by decide +kernel
@[simp] theorem sx_15_1 : ¬ (("sle" : Str) = ("burnish.lattice" : Str)) := by decide +kernel
@[simp] theorem sx_15_2 : ¬ (("sle" : Str) = ("i1" : Str)) := by decide +kernel
@[simp] theorem sx_15_3 : ¬ (("sle" : Str) = ("i8" : Str)) := by decide +kernel
@[simp] theorem sx_15_4 : ¬ (("sle" : Str) = ("i16" : Str)) := by decide +kernel
@[simp] theorem sx_15_5 : ¬ (("sle" : Str) = ("i32" : Str)) := by decide +kernel
@[simp] theorem sx_15_6 : ¬ (("sle" : Str) = ("i64" : Str)) := by decide +kernel
@[simp] theorem sx_15_7 : ¬ (("sle" : Str) = ("eq" : Str)) := by decide +kernel
@[simp] theorem sx_15_8 : ¬ (("sle" : Str) = ("ne" : Str)) := by decide +kernel
@[simp] theorem sx_15_9 : ¬ (("sle" : Str) = ("ult" : Str)) := by decide +kernel
@[simp] theorem sx_15_10 : ¬ (("sle" : Str) = ("uge" : Str)) := by decide +kernel
@[simp] theorem sx_15_11 : ¬ (("sle" : Str) = ("ule" : Str)) := by decide +kernel
@[simp] theorem sx_15_12 : ¬ (("sle" : Str) = ("ugt" : Str)) := by decide +kernel
@[simp] theorem sx_15_13 : ¬ (("sle" : Str) = ("slt" : Str)) := by decide +kernel
@[simp] theorem sx_15_14 : ¬ (("sle" : Str) = ("sge" : Str)) := by decide +kernel
@[simp] theorem sx_15_16 : ¬ (("sle" : Str) = ("sgt" : Str)) := by decide +kernel
@[simp] theorem sx_15_17 : ¬ (("sle" : Str) = ("shl" : Str)) := by decide +kernel
@[simp] theorem sx_15_18 : ¬ (("sle" : Str) = ("lshr" : Str)) := by decide +kernel
@[simp] theorem sx_15_19 : ¬ (("sle" : Str) = ("udiv" : Str)) := by decide +kernel
@[simp] theorem sx_15_20 : ¬ (("sle" : Str) = ("urem" : Str)) := by decide +kernel
@[simp] theorem sx_15_21 : ¬ (("sle" : Str) = ("sdiv" : Str)) := by decide +kernel
@[simp] theorem sx_15_22 : ¬ (("sle" : Str) = ("add" : Str)) := by decide +kernel
@[simp] theorem sx_15_23 : ¬ (("sle" : Str) = ("sub" : Str)) := by decide +kernel
@[simp] theorem sx_15_24 : ¬ (("sle" : Str) = ("mul" : Str)) := by decide +kernel
@[simp] theorem sx_15_25 : ¬ (("sle" : Str) = ("and" : Str)) := by decide +kernel
@[simp] theorem sx_15_26 : ¬ (("sle" : Str) = ("or" : Str)) := by decide +kernel
@[simp] theorem sx_15_27 : ¬ (("sle" : Str) = ("xor" : Str)) := by decide +kernel
@[simp] theorem sx_15_28 : ¬ (("sle" : Str) = ("s" : Str)) := by decide +kernel
@[simp] theorem sx_15_29 : ¬ (("sle" : Str) = ("lt" : Str)) := by decide +kernel
@[simp] theorem sx_15_30 : ¬ (("sle" : Str) = ("le" : Str)) := by decide +kernel
@[simp] theorem sx_15_31 : ¬ (("sle" : Str) = ("gt" : Str)) := by decide +kernel
@[simp] theorem sx_15_32 : ¬ (("sle" : Str) = ("sext" : Str)) := by decide +kernel
@[simp] theorem sx_15_33 : ¬ (("sle" : Str) = ("ashr" : Str)) := by decide +kernel
@[simp] theorem sx_15_34 : ¬ (("sle" : Str) = ("ge" : Str)) := by decide +kernel
@[simp] theorem sx_16_0 : ¬ (("sgt" : Str) = ("burnish.words" : Str)) := by decide +kernel
@[simp] theorem sx_16_1 : ¬ (("sgt" : Str) = ("burnish.lattice" : Str)) := by decide +kernel
@[simp] theorem sx_16_2 : ¬ (("sgt" : Str) = ("i1" : Str)) := by decide +kernel
@[simp] theorem sx_16_3 : ¬ (("sgt" : Str) = ("i8" : Str)) := by decide +kernel
@[simp] theorem sx_16_4 : ¬ (("sgt" : Str) = ("i16" : Str)) := by decide +kernel
@[simp] theorem sx_16_5 : ¬ (("sgt" : Str) = ("i32" : Str)) := by decide +kernel
@[simp] theorem sx_16_6 : ¬ (("sgt" : Str) = ("i64" : Str)) := by decide +kernel
@[simp] theorem sx_16_7 : ¬ (("sgt" : Str) = ("eq" : Str)) := by decide +kernel
@[simp] theorem sx_16_8 : ¬ (("sgt" : Str) = ("ne" : Str)) := by decide +kernel
@[simp] theorem sx_16_9 : ¬ (("sgt" : Str) = ("ult" : Str)) := by decide +kernel
@[simp] theorem sx_16_10 : ¬ (("sgt" : Str) = ("uge" : Str)) := by decide +kernel
@[simp] theorem sx_16_11 : ¬ (("sgt" : Str) = ("ule" : Str)) := by decide +kernel
@[simp] theorem sx_16_12 : ¬ (("sgt" : Str) = ("ugt" : Str)) := by decide +kernel
@[simp] theorem sx_16_13 : ¬ (("sgt" : Str) = ("slt" : Str)) := by decide +kernel
@[simp] theorem sx_16_14 : ¬ (("sgt" : Str) = ("sge" : Str)) := by decide +kernel
@[simp] theorem sx_16_15 : ¬ (("sgt" : Str) = ("sle" : Str)) := by decide +kernel
@[simp] theorem sx_16_17 : ¬ (("sgt" : Str) = ("shl" : Str)) := by decide +kernel
@[simp] theorem sx_16_18 : ¬ (("sgt" : Str) = ("lshr" : Str)) := by decide +kernel
@[simp] theorem sx_16_19 : ¬ (("sgt" : Str) = ("udiv" : Str)) := by decide +kernel
@[simp] theorem sx_16_20 : ¬ (("sgt" : Str) = ("urem" : Str)) := by decide +kernel
@[simp] theorem sx_16_21 : ¬ (("sgt" : Str) = ("sdiv" : Str)) := by decide +kernel
@[simp] theorem sx_16_22 : ¬ (("sgt" : Str) = ("add" : Str)) := by decide +kernel
@[simp] theorem sx_16_23 : ¬ (("sgt" : Str) = ("sub" : Str)) := by decide +kernel
@[simp] theorem sx_16_24 : ¬ (("sgt" : Str) = ("mul" : Str)) := by decide +kernel
@[simp] theorem sx_16_25 : ¬ (("sgt" : Str) = ("and" : Str)) := by decide +kernel
@[simp] theorem sx_16_26 : ¬ (("sgt" : Str) = ("or" : Str)) := by decide +kernel
@[simp] theorem sx_16_27 : ¬ (("sgt" : Str) = ("xor" : Str)) := by decide +kernel
@[simp] theorem sx_16_28 : ¬ (("sgt" : Str) = ("s" : Str)) := by decide +kernel
@[simp] theorem sx_16_29 : ¬ (("sgt" : Str) = ("lt" : Str)) := by decide +kernel
@[simp] theorem sx_16_30 : ¬ (("sgt" : Str) = ("le" : Str)) := by decide +kernel
@[simp] theorem sx_16_31 : ¬ (("sgt" : Str) = ("gt" : Str)) := by decide +kernel
@[simp] theorem sx_16_32 : ¬ (("sgt" : Str) = ("sext" : Str)) := by decide +kernel
@[simp] theorem sx_16_33 : ¬ (("sgt" : Str) = ("ashr" : Str)) := by decide +kernel
@[simp] theorem sx_16_34 : ¬ (("sgt" : Str) = ("ge" : Str)) := by decide +kernel
@[simp] theorem sx_17_0 : ¬ (("shl" : Str) = ("burnish.words" : Str)) := by decide +kernel
@[simp] theorem sx_17_1 : ¬ (("shl" : Str) = ("burnish.lattice" : Str)) := by decide +kernel
@[simp] theorem sx_17_2 : ¬ (("shl" : Str) = ("i1" : Str)) := by decide +kernel
@[simp] theorem sx_17_3 : ¬ (("shl" : Str) = ("i8" : Str)) := by decide +kernel
@[simp] theorem sx_17_4 : ¬ (("shl" : Str) = ("i16" : Str)) := by decide +kernel
@[simp] theorem sx_17_5 : ¬ (("shl" : Str) = ("i32" : Str)) := by decide +kernel
@[simp] theorem sx_17_6 : ¬ (("shl" : Str) = ("i64" : Str)) := by decide +kernel
@[simp] theorem sx_17_7 : ¬ (("shl" : Str) = ("eq" : Str)) := by decide +kernel
@[simp] theorem sx_17_8 : ¬ (("shl" : Str) = ("ne" : Str)) := by decide +kernel
@[simp] theorem sx_17_9 : ¬ (("shl" : Str) = ("ult" : Str)) := by decide +kernel
@[simp] theorem sx_17_10 : ¬ (("shl" : Str) = ("uge" : Str)) := by decide +kernel
@[simp] theorem sx_17_11 : ¬ (("shl" : Str) = ("ule" : Str)) := by decide +kernel
@[simp] theorem sx_17_12 : ¬ (("shl" : Str) = ("ugt" : Str)) := by decide +kernel
@[simp] theorem sx_17_13 : ¬ (("shl" : Str) = ("slt" : Str)) := by decide +kernel
@[simp] theorem sx_17_14 : ¬ (("shl" : Str) = ("sge" : Str)) := by decide +kernel
@[simp] theorem sx_17_15 : ¬ (("shl" : Str) = ("sle" : Str)) := by decide +kernel
@[simp] theorem sx_17_16 : ¬ (("shl" : Str) = ("sgt" : Str)) := by decide +kernel
@[simp] theorem sx_17_18 : ¬ (("shl" : Str) = ("lshr" : Str)) := by decide +kernel
@[simp] theorem sx_17_19 : ¬ (("shl" : Str) = ("udiv" : Str)) := by decide +kernel
@[simp] theorem sx_17_20 : ¬ (("shl" : Str) = ("urem" : Str)) := by decide +kernel
@[simp] theorem sx_17_21 : ¬ (("shl" : Str) = ("sdiv" : Str)) := by decide +kernel
@[simp] theorem sx_17_22 : ¬ (("shl" : Str) = ("add" : Str)) := by decide +kernel
@[simp] theorem sx_17_23 : ¬ (("shl" : Str) = ("sub" : Str)) := by decide +kernel
@[simp] theorem sx_17_24 : ¬ (("shl" : Str) = ("mul" : Str)) := by decide +kernel
@[simp] theorem sx_17_25 : ¬ (("shl" : Str) = ("and" : Str)) := by decide +kernel
@[simp] theorem sx_17_26 : ¬ (("shl" : Str) = ("or" : Str)) := by decide +kernel
@[simp] theorem sx_17_27 : ¬ (("shl" : Str) = ("xor" : Str)) := by decide +kernel
@[simp] theorem sx_17_28 : ¬ (("shl" : Str) = ("s" : Str)) := by decide +kernel
@[simp] theorem sx_17_29 : ¬ (("shl" : Str) = ("lt" : Str)) := by decide +kernel
@[simp] theorem sx_17_30 : ¬ (("shl" : Str) = ("le" : Str)) := by decide +kernel
@[simp] theorem sx_17_31 : ¬ (("shl" : Str) = ("gt" : Str)) := by decide +kernel
@[simp] theorem sx_17_32 : ¬ (("shl" : Str) = ("sext" : Str)) := by decide +kernel
@[simp] theorem sx_17_33 : ¬ (("shl" : Str) = ("ashr" : Str)) := by decide +kernel
@[simp] theorem sx_17_34 : ¬ (("shl" : Str) = ("ge" : Str)) := by decide +kernel
@[simp] theorem sx_18_0 : ¬ (("lshr" : Str) = ("burnish.words" : Str)) := by decide +kernel
@[simp] theorem sx_18_1 : ¬ (("lshr" : Str) = ("burnish.lattice" : Str)) := by decide +kernel
@[simp] theorem sx_18_2 : ¬ (("lshr" : Str) = ("i1" : Str)) := by decide +kernel
@[simp] theorem sx_18_3 : ¬ (("lshr" : Str) = ("i8" : Str)) := by decide +kernel
@[simp] theorem sx_18_4 : ¬ (("lshr" : Str) = ("i16" : Str)) := by decide +kernel
@[simp] theorem sx_18_5 : ¬ (("lshr" : Str) = ("i32" : Str)) := by decide +kernel
@[simp] theorem sx_18_6 : ¬ (("lshr" : Str) = ("i64" : Str)) := by decide +kernel
@[simp] theorem sx_18_7 : ¬ (("lshr" : Str) = ("eq" : Str)) := by decide +kernel
@[simp] theorem sx_18_8 : ¬ (("lshr" : Str) = ("ne" : Str)) := by decide +kernel
@[simp] theorem sx_18_9 : ¬ (("lshr" : Str) = ("ult" : Str)) := by decide +kernel
@[simp] theorem sx_18_10 : ¬ (("lshr" : Str) = ("uge" : Str)) := by decide +kernel
@[simp] theorem sx_18_11 : ¬ (("lshr" : Str) = ("ule" : Str)) := by decide +kernel
@[simp] theorem sx_18_12 : ¬ (("lshr" : Str) = ("ugt" : Str)) := by decide +kernel
@[simp] theorem sx_18_13 : ¬ (("lshr" : Str) = ("slt" : Str)) := by decide +kernel
@[simp] theorem sx_18_14 : ¬ (("lshr" : Str) = ("sge" : Str)) := by decide +kernel
@[simp] theorem sx_18_15 : ¬ (("lshr" : Str) = ("sle" : Str)) := by decide +kernel
@[simp] theorem sx_18_16 : ¬ (("lshr" : Str) = ("sgt" : Str)) := by decide +kernel
@[simp] theorem sx_18_17 : ¬ (("lshr" : Str) = ("shl" : Str)) := by decide +kernel
@[simp] theorem sx_18_19 : ¬ (("lshr" : Str) = ("udiv" : Str)) := by decide +kernel
@[simp] theorem sx_18_20 : ¬ (("lshr" : Str) = ("urem" : Str)) := by decide +kernel
@[simp] theorem sx_18_21 : ¬ (("lshr" : Str) = ("sdiv" : Str)) := by decide +kernel
@[simp] theorem sx_18_22 : ¬ (("lshr" : Str) = ("add" : Str)) := by decide +kernel
@[simp] theorem sx_18_23 : ¬ (("lshr" : Str) = ("sub" : Str)) := by decide +kernel
@[simp] theorem sx_18_24 : ¬ (("lshr" : Str) = ("mul" : Str)) := by decide +kernel
@[simp] theorem sx_18_25 : ¬ (("lshr" : Str) = ("and" : Str)) := by decide +kernel
@[simp] theorem sx_18_26 : ¬ (("lshr" : Str) = ("or" : Str)) := by decide +kernel
@[simp] theorem sx_18_27 : ¬ (("lshr" : Str) = ("xor" : Str)) := by decide +kernel
@[simp] theorem sx_18_28 : ¬ (("lshr" : Str) = ("s" : Str)) := by decide +kernel
@[simp] theorem sx_18_29 : ¬ (("lshr" : Str) = ("lt" : Str)) := by decide +kernel
@[simp] theorem sx_18_30 : ¬ (("lshr" : Str) = ("le" : Str)) := by decide +kernel
@[simp] theorem sx_18_31 : ¬ (("lshr" : Str) = ("gt" : Str)) := by decide +kernel
@[simp] theorem sx_18_32 : ¬ (("lshr" : Str) = ("sext" : Str)) := by decide +kernel
@[simp] theorem sx_18_33 : ¬ (("lshr" : Str) = ("ashr" : Str)) := by decide +kernel
@[simp] theorem sx_18_34 : ¬ (("lshr" : Str) = ("ge" : Str)) := by decide +kernel
@[simp] theorem sx_19_0 : ¬ (("udiv" : Str) = ("burnish.words" : Str)) := by decide +kernel
@[simp] theorem sx_19_1 : ¬ (("udiv" : Str) = ("burnish.lattice" : Str)) := by decide +kernel
@[simp] theorem sx_19_2 : ¬ (("udiv" : Str) = ("i1" : Str)) := by decide +kernel
@[simp] theorem sx_19_3 : ¬ (("udiv" : Str) = ("i8" : Str)) := by decide +kernel
@[simp] theorem sx_19_4 : ¬ (("udiv" : Str) = ("i16" : Str)) := by decide +kernel
@[simp] theorem sx_19_5 : ¬ (("udiv" : Str) = ("i32" : Str)) := by decide +kernel
@[simp] theorem sx_19_6 : ¬ (("udiv" : Str) = ("i64" : Str)) := by decide +kernel
@[simp] theorem sx_19_7 : ¬ (("udiv" : Str) = ("eq" : Str)) := by decide +kernel
@[simp] theorem sx_19_8 : ¬ (("udiv" : Str) = ("ne" : Str)) := by decide +kernel
@[simp] theorem sx_19_9 : ¬ (("udiv" : Str) = ("ult" : Str)) := by decide +kernel
@[simp] theorem sx_19_10 : ¬ (("udiv" : Str) = ("uge" : Str)) := by decide +kernel
@[simp] theorem sx_19_11 : ¬ (("udiv" : Str) = ("ule" : Str)) := by decide +kernel
@[simp] theorem sx_19_12 : ¬ (("udiv" : Str) = ("ugt" : Str)) := by decide +kernel
@[simp] theorem sx_19_13 : ¬ (("udiv" : Str) = ("slt" : Str)) := by decide +kernel
@[simp] theorem sx_19_14 : ¬ (("udiv" : Str) = ("sge" : Str)) := by decide +kernel
@[simp] theorem sx_19_15 : ¬ (("udiv" : Str) = ("sle" : Str)) := by decide +kernel
@[simp] theorem sx_19_16 : ¬ (("udiv" : Str) = ("sgt" : Str)) := by decide +kernel
@[simp] theorem sx_19_17 : ¬ (("udiv" : Str) = ("shl" : Str)) := by decide +kernel
@[simp] theorem sx_19_18 : ¬ (("udiv" : Str) = ("lshr" : Str)) := by decide +kernel
@[simp] theorem sx_19_20 : ¬ (("udiv" : Str) = ("urem" : Str)) := by decide +kernel
@[simp] theorem sx_19_21 : ¬ (("udiv" : Str) = ("sdiv" : Str)) := by decide +kernel
@[simp] theorem sx_19_22 : ¬ (("udiv" : Str) = ("add" : Str)) := by decide +kernel
@[simp] theorem sx_19_23 : ¬ (("udiv" : Str) = ("sub" : Str)) := by decide +kernel
@[simp] theorem sx_19_24 : ¬ (("udiv" : Str) = ("mul" : Str)) := by decide +kernel
@[simp] theorem sx_19_25 : ¬ (("udiv" : Str) = ("and" : Str)) := by decide +kernel
@[simp] theorem sx_19_26 : ¬ (("udiv" : Str) = ("or" : Str)) := by decide +kernel
@[simp] theorem sx_19_27 : ¬ (("udiv" : Str) = ("xor" : Str)) := by decide +kernel
@[simp] theorem sx_19_28 : ¬ (("udiv" : Str) = ("s" : Str)) := by decide +kernel
@[simp] theorem sx_19_29 : ¬ (("udiv" : Str) = ("lt" : Str)) := by decide +kernel
@[simp] theorem sx_19_30 : ¬ (("udiv" : Str) = ("le" : Str)) := by decide +kernel
@[simp] theorem sx_19_31 : ¬ (("udiv" : Str) = ("gt" : Str)) := by decide +kernel
@[simp] theorem sx_19_32 : ¬ (("udiv" : Str) = ("sext" : Str)) := by decide +kernel
@[simp] theorem sx_19_33 : ¬ (("udiv" : Str) = ("ashr" : Str)) := by decide +kernel
@[simp] theorem sx_19_34 : ¬ (("udiv" : Str) = ("ge" : Str)) := by decide +kernel
@[simp] theorem sx_20_0 : ¬ (("urem" : Str) = ("burnish.words" : Str)) := by decide +kernel
@[simp] theorem sx_20_1 : ¬ (("urem" : Str) = ("burnish.lattice" : Str)) := by decide +kernel
@[simp] theorem sx_20_2 : ¬ (("urem" : Str) = ("i1" : Str)) := by decide +kernel
@[simp] theorem sx_20_3 : ¬ (("urem" : Str) = ("i8" : Str)) := by decide +kernel
@[simp] theorem sx_20_4 : ¬ (("urem" : Str) = ("i16" : Str)) := by decide +kernel
@[simp] theorem sx_20_5 : ¬ (("urem" : Str) = ("i32" : Str)) := by decide +kernel
@[simp] theorem sx_20_6 : ¬ (("urem" : Str) = ("i64" : Str)) := by decide +kernel
@[simp] theorem sx_20_7 : ¬ (("urem" : Str) = ("eq" : Str)) := by decide +kernel
@[simp] theorem sx_20_8 : ¬ (("urem" : Str) = ("ne" : Str)) := by decide +kernel
@[simp] theorem sx_20_9 : ¬ (("urem" : Str) = ("ult" : Str)) := by decide +kernel
@[simp] theorem sx_20_10 : ¬ (("urem" : Str) = ("uge" : Str)) := by decide +kernel
@[simp] theorem sx_20_11 : ¬ (("urem" : Str) = ("ule" : Str)) := by decide +kernel
@[simp] theorem sx_20_12 : ¬ (("urem" : Str) = ("ugt" : Str)) := by decide +kernel
@[simp] theorem sx_20_13 : ¬ (("urem" : Str) = ("slt" : Str)) := by decide +kernel
@[simp] theorem sx_20_14 : ¬ (("urem" : Str) = ("sge" : Str)) := by decide +kernel
@[simp] theorem sx_20_15 : ¬ (("urem" : Str) = ("sle" : Str)) := by decide +kernel
@[simp] theorem sx_20_16 : ¬ (("urem" : Str) = ("sgt" : Str)) := by decide +kernel
@[simp] theorem sx_20_17 : ¬ (("urem" : Str) = ("shl" : Str)) := by decide +kernel
@[simp] theorem sx_20_18 : ¬ (("urem" : Str) = ("lshr" : Str)) := by decide +kernel
@[simp] theorem sx_20_19 : ¬ (("urem" : Str) = ("udiv" : Str)) := by decide +kernel
@[simp] theorem sx_20_21 : ¬ (("urem" : Str) = ("sdiv" : Str)) := by decide +kernel
@[simp] theorem sx_20_22 : ¬ (("urem" : Str) = ("add" : Str)) := by decide +kernel
@[simp] theorem sx_20_23 : ¬ (("urem" : Str) = ("sub" : Str)) := by decide +kernel
@[simp] theorem sx_20_24 : ¬ (("urem" : Str) = ("mul" : Str)) := by decide +kernel
@[simp] theorem sx_20_25 : ¬ (("urem" : Str) = ("and" : Str)) := by decide +kernel
@[simp] theorem sx_20_26 : ¬ (("urem" : Str) = ("or" : Str)) := by decide +kernel
@[simp] theorem sx_20_27 : ¬ (("urem" : Str) = ("xor" : Str)) := by decide +kernel
@[simp] theorem sx_20_28 : ¬ (("urem" : Str) = ("s" : Str)) := by decide +kernel
@[simp] theorem sx_20_29 : ¬ (("urem" : Str) = ("lt" : Str)) := by decide +kernel
@[simp] theorem sx_20_30 : ¬ (("urem" : Str) = ("le" : Str)) := by decide +kernel
@[simp] theorem sx_20_31 : ¬ (("urem" : Str) = ("gt" : Str)) := by decide +kernel
@[simp] theorem sx_20_32 : ¬ (("urem" : Str) = ("sext" : Str)) := by decide +kernel
@[simp] theorem sx_20_33 : ¬ (("urem" : Str) = ("ashr" : Str)) := by decide +kernel
@[simp] theorem sx_20_34 : ¬ (("urem" : Str) = ("ge" : Str)) := by decide +kernel
@[simp] theorem sx_21_0 : ¬ (("sdiv" : Str) = ("burnish.words" : Str)) := by decide +kernel
@[simp] theorem sx_21_1 : ¬ (("sdiv" : Str) = ("burnish.lattice" : Str)) := by decide +kernel
@[simp] theorem sx_21_2 : ¬ (("sdiv" : Str) = ("i1" : Str)) := by decide +kernel
@[simp] theorem sx_21_3 : ¬ (("sdiv" : Str) = ("i8" : Str)) := by decide +kernel
@[simp] theorem sx_21_4 : ¬ (("sdiv" : Str) = ("i16" : Str)) := by decide +kernel
@[simp] theorem sx_21_5 : ¬ (("sdiv" : Str) = ("i32" : Str)) := by decide +kernel
@[simp] theorem sx_21_6 : ¬ (("sdiv" : Str) = ("i64" : Str)) := by decide +kernel
@[simp] theorem sx_21_7 : ¬ (("sdiv" : Str) = ("eq" : Str)) := by decide +kernel
@[simp] theorem sx_21_8 : ¬ (("sdiv" : Str) = ("ne" : Str)) := by decide +kernel
@[simp] theorem sx_21_9 : ¬ (("sdiv" : Str) = ("ult" : Str)) := by decide +kernel
@[simp] theorem sx_21_10 : ¬ (("sdiv" : Str) = ("uge" : Str)) := by decide +kernel
@[simp] theorem sx_21_11 : ¬ (("sdiv" : Str) = ("ule" : Str)) := by decide +kernel
@[simp] theorem sx_21_12 : ¬ (("sdiv" : Str) = ("ugt" : Str)) := by decide +kernel
@[simp] theorem sx_21_13 : ¬ (("sdiv" : Str) = ("slt" : Str)) := by decide +kernel
@[simp] theorem sx_21_14 : ¬ (("sdiv" : Str) = ("sge" : Str)) := by decide +kernel
@[simp] theorem sx_21_15 : ¬ (("sdiv" : Str) = ("sle" : Str)) := by decide +kernel
@[simp] theorem sx_21_16 : ¬ (("sdiv" : Str) = ("sgt" : Str)) := by decide +kernel
@[simp] theorem sx_21_17 : ¬ (("sdiv" : Str) = ("shl" : Str)) := by decide +kernel
@[simp] theorem sx_21_18 : ¬ (("sdiv" : Str) = ("lshr" : Str)) := by decide +kernel
@[simp] theorem sx_21_19 : ¬ (("sdiv" : Str) = ("udiv" : Str)) := by decide +kernel
@[simp] theorem sx_21_20 : ¬ (("sdiv" : Str) = ("urem" : Str)) := by decide +kernel
@[simp] theorem sx_21_22 : ¬ (("sdiv" : Str) = ("add" : Str)) := by decide +kernel
@[simp] theorem sx_21_23 : ¬ (("sdiv" : Str) = ("sub" : Str)) := by decide +kernel
@[simp] theorem sx_21_24 : ¬ (("sdiv" : Str) = ("mul" : Str)) := by decide +kernel
@[simp] theorem sx_21_25 : ¬ (("sdiv" : Str) = ("and" : Str)) := by decide +kernel
@[simp] theorem sx_21_26 : ¬ (("sdiv" : Str) = ("or" : Str)) := by decide +kernel
@[simp] theorem sx_21_27 : ¬ (("sdiv" : Str) = ("xor" : Str)) := by decide +kernel
@[simp] theorem sx_21_28 : ¬ (("sdiv" : Str) = ("s" : Str)) := by decide +kernel
@[simp] theorem sx_21_29 : ¬ (("sdiv" : Str) = ("lt" : Str)) := by decide +kernel
@[simp] theorem sx_21_30 : ¬ (("sdiv" : Str) = ("le" : Str)) := by decide +kernel
@[simp] theorem sx_21_31 : ¬ (("sdiv" : Str) = ("gt" : Str)) := by decide +kernel
@[simp] theorem sx_21_32 : ¬ (("sdiv" : Str) = ("sext" : Str)) := by decide +kernel
@[simp] theorem sx_21_33 : ¬ (("sdiv" : Str) = ("ashr" : Str)) := by decide +kernel
@[simp] theorem sx_21_34 : ¬ (("sdiv" : Str) = ("ge" : Str)) := by decide +kernel
@[simp] theorem sx_22_0 : ¬ (("add" : Str) = ("burnish.words" : Str)) := by decide +kernel
@[simp] theorem sx_22_1 : ¬ (("add" : Str) = ("burnish.lattice" : Str)) := by decide +kernel
@[simp] theorem sx_22_2 : ¬ (("add" : Str) = ("i1" : Str)) := by decide +kernel
@[simp] theorem sx_22_3 : ¬ (("add" : Str) = ("i8" : Str)) := by decide +kernel
@[simp] theorem sx_22_4 : ¬ (("add" : Str) = ("i16" : Str)) := by decide +kernel
@[simp] theorem sx_22_5 : ¬ (("add" : Str) = ("i32" : Str)) := by decide +kernel
@[simp] theorem sx_22_6 : ¬ (("add" : Str) = ("i64" : Str)) := by decide +kernel
@[simp] theorem sx_22_7 : ¬ (("add" : Str) = ("eq" : Str)) := by decide +kernel
@[simp] theorem sx_22_8 : ¬ (("add" : Str) = ("ne" : Str)) := by decide +kernel
@[simp] theorem sx_22_9 : ¬ (("add" : Str) = ("ult" : Str)) := by decide +kernel
@[simp] theorem sx_22_10 : ¬ (("add" : Str) = ("uge" : Str)) := by decide +kernel
@[simp] theorem sx_22_11 : ¬ (("add" : Str) = ("ule" : Str)) := by decide +kernel
@[simp] theorem sx_22_12 : ¬ (("add" : Str) = ("ugt" : Str)) := by decide +kernel
@[simp] theorem sx_22_13 : ¬ (("add" : Str) = ("slt" : Str)) := by decide +kernel
@[simp] theorem sx_22_14 : ¬ (("add" : Str) = ("sge" : Str)) := by decide +kernel
@[simp] theorem sx_22_15 : ¬ (("add" : Str) = ("sle" : Str)) := by decide +kernel
@[simp] theorem sx_22_16 : ¬ (("add" : Str) = ("sgt" : Str)) := by decide +kernel
@[simp] theorem sx_22_17 : ¬ (("add" : Str) = ("shl" : Str)) := by decide +kernel
@[simp] theorem sx_22_18 : ¬ (("add" : Str) = ("lshr" : Str)) := by decide +kernel
@[simp] theorem sx_22_19 : ¬ (("add" : Str) = ("udiv" : Str)) := by decide +kernel
@[simp] theorem sx_22_20 : ¬ (("add" : Str) = ("urem" : Str)) := by decide +kernel
@[simp] theorem sx_22_21 : ¬ (("add" : Str) = ("sdiv" : Str)) := by decide +kernel
@[simp] theorem sx_22_23 : ¬ (("add" : Str) = ("sub" : Str)) := by decide +kernel
@[simp] theorem sx_22_24 : ¬ (("add" : Str) = ("mul" : Str)) := by decide +kernel
@[simp] theorem sx_22_25 : ¬ (("add" : Str) = ("and" : Str)) := by decide +kernel
@[simp] theorem sx_22_26 : ¬ (("add" : Str) = ("or" : Str)) := by decide +kernel
@[simp] theorem sx_22_27 : ¬ (("add" : Str) = ("xor" : Str)) := by decide +kernel
@[simp] theorem sx_22_28 : ¬ (("add" : Str) = ("s" : Str)) := by decide +kernel
@[simp] theorem sx_22_29 : ¬ (("add" : Str) = ("lt" : Str)) := by decide +kernel
@[simp] theorem sx_22_30 : ¬ (("add" : Str) = ("le" : Str)) := by decide +kernel
@[simp] theorem sx_22_31 : ¬ (("add" : Str) = ("gt" : Str)) := by decide +kernel
@[simp] theorem sx_22_32 : ¬ (("add" : Str) = ("sext" : Str)) := by decide +kernel
@[simp] theorem sx_22_33 : ¬ (("add" : Str) = ("ashr" : Str)) := by decide +kernel
@[simp] theorem sx_22_34 : ¬ (("add" : Str) = ("ge" : Str)) := by decide +kernel
@[simp] theorem sx_23_0 : ¬ (("sub" : Str) = ("burnish.words" : Str)) := by decide +kernel
@[simp] theorem sx_23_1 : ¬ (("sub" : Str) = ("burnish.lattice" : Str)) := by decide +kernel
@[simp] theorem sx_23_2 : ¬ (("sub" : Str) = ("i1" : Str)) := by decide +kernel
@[simp] theorem sx_23_3 : ¬ (("sub" : Str) = ("i8" : Str)) := by decide +kernel
@[simp] theorem sx_23_4 : ¬ (("sub" : Str) = ("i16" : Str)) := by decide +kernel
@[simp] theorem sx_23_5 : ¬ (("sub" : Str) = ("i32" : Str)) := by decide +kernel
@[simp] theorem sx_23_6 : ¬ (("sub" : Str) = ("i64" : Str)) := by decide +kernel
@[simp] theorem sx_23_7 : ¬ (("sub" : Str) = ("eq" : Str)) := by decide +kernel
@[simp] theorem sx_23_8 : ¬ (("sub" : Str) = ("ne" : Str)) := by decide +kernel
@[simp] theorem sx_23_9 : ¬ (("sub" : Str) = ("ult" : Str)) := by decide +kernel
@[simp] theorem sx_23_10 : ¬ (("sub" : Str) = ("uge" : Str)) := by decide +kernel
@[simp] theorem sx_23_11 : ¬ (("sub" : Str) = ("ule" : Str)) := by decide +kernel
@[simp] theorem sx_23_12 : ¬ (("sub" : Str) = ("ugt" : Str)) := by decide +kernel
@[simp] theorem sx_23_13 : ¬ (("sub" : Str) = ("slt" : Str)) := by decide +kernel
@[simp] theorem sx_23_14 : ¬ (("sub" : Str) = ("sge" : Str)) := by decide +kernel
@[simp] theorem sx_23_15 : ¬ (("sub" : Str) = ("sle" : Str)) := by decide +kernel
@[simp] theorem sx_23_16 : ¬ (("sub" : Str) = ("sgt" : Str)) := by decide +kernel
@[simp] theorem sx_23_17 : ¬ (("sub" : Str) = ("shl" : Str)) := by decide +kernel
@[simp] theorem sx_23_18 : ¬ (("sub" : Str) = ("lshr" : Str)) := by decide +kernel
@[simp] theorem sx_23_19 : ¬ (("sub" : Str) = ("udiv" : Str)) := by decide +kernel
@[simp] theorem sx_23_20 : ¬ (("sub" : Str) = ("urem" : Str)) := by decide +kernel
@[simp] theorem sx_23_21 : ¬ (("sub" : Str) = ("sdiv" : Str)) := by decide +kernel
@[simp] theorem sx_23_22 : ¬ (("sub" : Str) = ("add" : Str)) := by decide +kernel
@[simp] theorem sx_23_24 : ¬ (("sub" : Str) = ("mul" : Str)) := by decide +kernel
@[simp] theorem sx_23_25 : ¬ (("sub" : Str) = ("and" : Str)) := by decide +kernel
@[simp] theorem sx_23_26 : ¬ (("sub" : Str) = ("or" : Str)) := by decide +kernel
@[simp] theorem sx_23_27 : ¬ (("sub" : Str) = ("xor" : Str)) := by decide +kernel
@[simp] theorem sx_23_28 : ¬ (("sub" : Str) = ("s" : Str)) := by decide +kernel
@[simp] theorem sx_23_29 : ¬ (("sub" : Str) = ("lt" : Str)) := by decide +kernel
@[simp] theorem sx_23_30 : ¬ (("sub" : Str) = ("le" : Str)) := by decide +kernel
@[simp] theorem sx_23_31 : ¬ (("sub" : Str) = ("gt" : Str)) := by decide +kernel
@[simp] theorem sx_23_32 : ¬ (("sub" : Str) = ("sext" : Str)) := by decide +kernel
@[simp] theorem sx_23_33 : ¬ (("sub" : Str) = ("ashr" : Str)) := by decide +kernel
@[simp] theorem sx_23_34 : ¬ (("sub" : Str) = ("ge" : Str)) := by decide +kernel
@[simp] theorem sx_24_0 : ¬ (("mul" : Str) = ("burnish.words" : Str)) := by decide +kernel
@[simp] theorem sx_24_1 : ¬ (("mul" : Str) = ("burnish.lattice" : Str)) := by decide +kernel
@[simp] theorem sx_24_2 : ¬ (("mul" : Str) = ("i1" : Str)) := by decide +kernel
@[simp] theorem sx_24_3 : ¬ (("mul" : Str) = ("i8" : Str)) := by decide +kernel
@[simp] theorem sx_24_4 : ¬ (("mul" : Str) = ("i16" : Str)) := by decide +kernel
@[simp] theorem sx_24_5 : ¬ (("mul" : Str) = ("i32" : Str)) := by decide +kernel
@[simp] theorem sx_24_6 : ¬ (("mul" : Str) = ("i64" : Str)) := by decide +kernel
@[simp] theorem sx_24_7 : ¬ (("mul" : Str) = ("eq" : Str)) := by decide +kernel
@[simp] theorem sx_24_8 : ¬ (("mul" : Str) = ("ne" : Str)) := by decide +kernel
@[simp] theorem sx_24_9 : ¬ (("mul" : Str) = ("ult" : Str)) := by decide +kernel
@[simp] theorem sx_24_10 : ¬ (("mul" : Str) = ("uge" : Str)) := by decide +kernel
@[simp] theorem sx_24_11 : ¬ (("mul" : Str) = ("ule" : Str)) := by decide +kernel
@[simp] theorem sx_24_12 : ¬ (("mul" : Str) = ("ugt" : Str)) := by decide +kernel
@[simp] theorem sx_24_13 : ¬ (("mul" : Str) = ("slt" : Str)) := by decide +kernel
@[simp] theorem sx_24_14 : ¬ (("mul" : Str) = ("sge" : Str)) := by decide +kernel
@[simp] theorem sx_24_15 : ¬ (("mul" : Str) = ("sle" : Str)) := by decide +kernel
@[simp] theorem sx_24_16 : ¬ (("mul" : Str) = ("sgt" : Str)) := by decide +kernel
@[simp] theorem sx_24_17 : ¬ (("mul" : Str) = ("shl" : Str)) := by decide +kernel
@[simp] theorem sx_24_18 : ¬ (("mul" : Str) = ("lshr" : Str)) := by decide +kernel
@[simp] theorem sx_24_19 : ¬ (("mul" : Str) = ("udiv" : Str)) := by decide +kernel
@[simp] theorem sx_24_20 : ¬ (("mul" : Str) = ("urem" : Str)) := by decide +kernel
@[simp] theorem sx_24_21 : ¬ (("mul" : Str) = ("sdiv" : Str)) := by decide +kernel
@[simp] theorem sx_24_22 : ¬ (("mul" : Str) = ("add" : Str)) := by decide +kernel
@[simp] theorem sx_24_23 : ¬ (("mul" : Str) = ("sub" : Str)) := by decide +kernel
@[simp] theorem sx_24_25 : ¬ (("mul" : Str) = ("and" : Str)) := by decide +kernel
@[simp] theorem sx_24_26 : ¬ (("mul" : Str) = ("or" : Str)) := by decide +kernel
@[simp] theorem sx_24_27 : ¬ (("mul" : Str) = ("xor" : Str)) := by decide +kernel
@[simp] theorem sx_24_28 : ¬ (("mul" : Str) = ("s" : Str)) := by decide +kernel
@[simp] theorem sx_24_29 : ¬ (("mul" : Str) = ("lt" : Str)) := by decide +kernel
@[simp] theorem sx_24_30 : ¬ (("mul" : Str) = ("le" : Str)) := by decide +kernel
@[simp] theorem sx_24_31 : ¬ (("mul" : Str) = ("gt" : Str)) := by decide +kernel
@[simp] theorem sx_24_32 : ¬ (("mul" : Str) = ("sext" : Str)) := by decide +kernel
@[simp] theorem sx_24_33 : ¬ (("mul" : Str) = ("ashr" : Str)) := by decide +kernel
@[simp] theorem sx_24_34 : ¬ (("mul" : Str) = ("ge" : Str)) := by decide +kernel
@[simp] theorem sx_25_0 : ¬ (("and" : Str) = ("burnish.words" : Str)) := by decide +kernel
@[simp] theorem sx_25_1 : ¬ (("and" : Str) = ("burnish.lattice" : Str)) := by decide +kernel
@[simp] theorem sx_25_2 : ¬ (("and" : Str) = ("i1" : Str)) := by decide +kernel
@[simp] theorem sx_25_3 : ¬ (("and" : Str) = ("i8" : Str)) := by decide +kernel
@[simp] theorem sx_25_4 : ¬ (("and" : Str) = ("i16" : Str)) := by decide +kernel
@[simp] theorem sx_25_5 : ¬ (("and" : Str) = ("i32" : Str)) := by decide +kernel
@[simp] theorem sx_25_6 : ¬ (("and" : Str) = ("i64" : Str)) := by decide +kernel
@[simp] theorem sx_25_7 : ¬ (("and" : Str) = ("eq" : Str)) := by decide +kernel
@[simp] theorem sx_25_8 : ¬ (("and" : Str) = ("ne" : Str)) := by decide +kernel
@[simp] theorem sx_25_9 : ¬ (("and" : Str) = ("ult" : Str)) := by decide +kernel
@[simp] theorem sx_25_10 : ¬ (("and" : Str) = ("uge" : Str)) := by decide +kernel
@[simp] theorem sx_25_11 : ¬ (("and" : Str) = ("ule" : Str)) := by decide +kernel
@[simp] theorem sx_25_12 : ¬ (("and" : Str) = ("ugt" : Str)) := by decide +kernel
@[simp] theorem sx_25_13 : ¬ (("and" : Str) = ("slt" : Str)) := by decide +kernel
@[simp] theorem sx_25_14 : ¬ (("and" : Str) = ("sge" : Str)) := by decide +kernel
@[simp] theorem sx_25_15 : ¬ (("and" : Str) = ("sle" : Str)) := by decide +kernel
@[simp] theorem sx_25_16 : ¬ (("and" : Str) = ("sgt" : Str)) := by decide +kernel
@[simp] theorem sx_25_17 : ¬ (("and" : Str) = ("shl" : Str)) := by decide +kernel
@[simp] theorem sx_25_18 : ¬ (("and" : Str) = ("lshr" : Str)) := by decide +kernel
@[simp] theorem sx_25_19 : ¬ (("and" : Str) = ("udiv" : Str)) := by decide +kernel
@[simp] theorem sx_25_20 : ¬ (("and" : Str) = ("urem" : Str)) := by decide +kernel
@[simp] theorem sx_25_21 : ¬ (("and" : Str) = ("sdiv" : Str)) := by decide +kernel
@[simp] theorem sx_25_22 : ¬ (("and" : Str) = ("add" : Str)) := by decide +kernel
@[simp] theorem sx_25_23 : ¬ (("and" : Str) = ("sub" : Str)) := by decide +kernel
@[simp] theorem sx_25_24 : ¬ (("and" : Str) = ("mul" : Str)) := by decide +kernel
@[simp] theorem sx_25_26 : ¬ (("and" : Str) = ("or" : Str)) := by decide +kernel
@[simp] theorem sx_25_27 : ¬ (("and" : Str) = ("xor" : Str)) := by decide +kernel
@[simp] theorem sx_25_28 : ¬ (("and" : Str) = ("s" : Str)) := by decide +kernel
@[simp] theorem sx_25_29 : ¬ (("and" : Str) = ("lt" : Str)) := by decide +kernel
@[simp] theorem sx_25_30 : ¬ (("and" : Str) = ("le" : Str)) := by decide +kernel
@[simp] theorem sx_25_31 : ¬ (("and" : Str) = ("gt" : Str)) := by decide +kernel
@[simp] theorem sx_25_32 : ¬ (("and" : Str) = ("sext" : Str)) := by decide +kernel
@[simp] theorem sx_25_33 : ¬ (("and" : Str) = ("ashr" : Str)) := by decide +kernel
@[simp] theorem sx_25_34 : ¬ (("and" : Str) = ("ge" : Str)) := by decide +kernel
@[simp] theorem sx_26_0 : ¬ (("or" : Str) = ("burnish.words" : Str)) := by decide +kernel
@[simp] theorem sx_26_1 : ¬ (("or" : Str) = ("burnish.lattice" : Str)) := by decide +kernel
@[simp] theorem sx_26_2 : ¬ (("or" : Str) = ("i1" : Str)) := by decide +kernel
@[simp] theorem sx_26_3 : ¬ (("or" : Str) = ("i8" : Str)) := by decide +kernel
@[simp] theorem sx_26_4 : ¬ (("or" : Str) = ("i16" : Str)) := by decide +kernel
@[simp] theorem sx_26_5 : ¬ (("or" : Str) = ("i32" : Str)) := by decide +kernel
@[simp] theorem sx_26_6 : ¬ (("or" : Str) = ("i64" : Str)) := by decide +kernel
@[simp] theorem sx_26_7 : ¬ (("or" : Str) = ("eq" : Str)) := by decide +kernel
@[simp] theorem sx_26_8 : ¬ (("or" : Str) = ("ne" : Str)) := by decide +kernel
@[simp] theorem sx_26_9 : ¬ (("or" : Str) = ("ult" : Str)) := by decide +kernel
@[simp] theorem sx_26_10 : ¬ (("or" : Str) = ("uge" : Str)) := by decide +kernel
@[simp] theorem sx_26_11 : ¬ (("or" : Str) = ("ule" : Str)) := by decide +kernel
@[simp] theorem sx_26_12 : ¬ (("or" : Str) = ("ugt" : Str)) := by decide +kernel
@[simp] theorem sx_26_13 : ¬ (("or" : Str) = ("slt" : Str)) := by decide +kernel
@[simp] theorem sx_26_14 : ¬ (("or" : Str) = ("sge" : Str)) := by decide +kernel
@[simp] theorem sx_26_15 : ¬ (("or" : Str) = ("sle" : Str)) := by decide +kernel
@[simp] theorem sx_26_16 : ¬ (("or" : Str) = ("sgt" : Str)) := by decide +kernel
@[simp] theorem sx_26_17 : ¬ (("or" : Str) = ("shl" : Str)) := by decide +kernel
@[simp] theorem sx_26_18 : ¬ (("or" : Str) = ("lshr" : Str)) := by decide +kernel
@[simp] theorem sx_26_19 : ¬ (("or" : Str) = ("udiv" : Str)) := by decide +kernel
@[simp] theorem sx_26_20 : ¬ (("or" : Str) = ("urem" : Str)) := by decide +kernel
@[simp] theorem sx_26_21 : ¬ (("or" : Str) = ("sdiv" : Str)) := by decide +kernel
@[simp] theorem sx_26_22 : ¬ (("or" : Str) = ("add" : Str)) := by decide +kernel
@[simp] theorem sx_26_23 : ¬ (("or" : Str) = ("sub" : Str)) := by decide +kernel
@[simp] theorem sx_26_24 : ¬ (("or" : Str) = ("mul" : Str)) := by decide +kernel
@[simp] theorem sx_26_25 : ¬ (("or" : Str) = ("and" : Str)) := by decide +kernel
@[simp] theorem sx_26_27 : ¬ (("or" : Str) = ("xor" : Str)) := by decide +kernel
@[simp] theorem sx_26_28 : ¬ (("or" : Str) = ("s" : Str)) := by decide +kernel
@[simp] theorem sx_26_29 : ¬ (("or" : Str) = ("lt" : Str)) := by decide +kernel
@[simp] theorem sx_26_30 : ¬ (("or" : Str) = ("le" : Str)) := by decide +kernel
@[simp] theorem sx_26_31 : ¬ (("or" : Str) = ("gt" : Str)) := by decide +kernel
@[simp] theorem sx_26_32 : ¬ (("or" : Str) = ("sext" : Str)) := by decide +kernel
@[simp] theorem sx_26_33 : ¬ (("or" : Str) = ("ashr" : Str)) := by decide +kernel
@[simp] theorem sx_26_34 : ¬ (("or" : Str) = ("ge" : Str)) := by decide +kernel
@[simp] theorem sx_27_0 : ¬ (("xor" : Str) = ("burnish.words" : Str)) := by decide +kernel
@[simp] theorem sx_27_1 : ¬ (("xor" : Str) = ("burnish.lattice" : Str)) := by decide +kernel
@[simp] theorem sx_27_2 : ¬ (("xor" : Str) = ("i1" : Str)) := by decide +kernel
@[simp] theorem sx_27_3 : ¬ (("xor" : Str) = ("i8" : Str)) := by decide +kernel
@[simp] theorem sx_27_4 : ¬ (("xor" : Str) = ("i16" : Str)) := by decide +kernel
@[simp] theorem sx_27_5 : ¬ (("xor" : Str) = ("i32" : Str)) := by decide +kernel
@[simp] theorem sx_27_6 : ¬ (("xor" : Str) = ("i64" : Str)) := by decide +kernel
@[simp] theorem sx_27_7 : ¬ (("xor" : Str) = ("eq" : Str)) := by decide +kernel
@[simp] theorem sx_27_8 : ¬ (("xor" : Str) = ("ne" : Str)) := by decide +kernel
@[simp] theorem sx_27_9 : ¬ (("xor" : Str) = ("ult" : Str)) := by decide +kernel
@[simp] theorem sx_27_10 : ¬ (("xor" : Str) = ("uge" : Str)) := by decide +kernel
@[simp] theorem sx_27_11 : ¬ (("xor" : Str) = ("ule" : Str)) := by decide +kernel
@[simp] theorem sx_27_12 : ¬ (("xor" : Str) = ("ugt" : Str)) := by decide +kernel
@[simp] theorem sx_27_13 : ¬ (("xor" : Str) = ("slt" : Str)) := by decide +kernel
@[simp] theorem sx_27_14 : ¬ (("xor" : Str) = ("sge" : Str)) := by decide +kernel
@[simp] theorem sx_27_15 : ¬ (("xor" : Str) = ("sle" : Str)) := by decide +kernel
@[simp] theorem sx_27_16 : ¬ (("xor" : Str) = ("sgt" : Str)) := by decide +kernel
@[simp] theorem sx_27_17 : ¬ (("xor" : Str) = ("shl" : Str)) := by decide +kernel
@[simp] theorem sx_27_18 : ¬ (("xor" : Str) = ("lshr" : Str)) := by decide +kernel
@[simp] theorem sx_27_19 : ¬ (("xor" : Str) = ("udiv" : Str)) := by decide +kernel
@[simp] theorem sx_27_20 : ¬ (("xor" : Str) = ("urem" : Str)) := by decide +kernel
@[simp] theorem sx_27_21 : ¬ (("xor" : Str) = ("sdiv" : Str)) := by decide +kernel
@[simp] theorem sx_27_22 : ¬ (("xor" : Str) = ("add" : Str)) := by decide +kernel
@[simp] theorem sx_27_23 : ¬ (("xor" : Str) = ("sub" : Str)) := by decide +kernel
@[simp] theorem sx_27_24 : ¬ (("xor" : Str) = ("mul" : Str)) := by decide +kernel
@[simp] theorem sx_27_25 : ¬ (("xor" : Str) = ("and" : Str)) := by decide +kernel
@[simp] theorem sx_27_26 : ¬ (("xor" : Str) = ("or" : Str)) := by decide +kernel
@[simp] theorem sx_27_28 : ¬ (("xor" : Str) = ("s" : Str)) := by decide +kernel
@[simp] theorem sx_27_29 : ¬ (("xor" : Str) = ("lt" : Str)) := by decide +kernel
@[simp] theorem sx_27_30 : ¬ (("xor" : Str) = ("le" : Str)) := by decide +kernel
@[simp] theorem sx_27_31 : ¬ (("xor" : Str) = ("gt" : Str)) := by decide +kernel
@[simp] theorem sx_27_32 : ¬ (("xor" : Str) = ("sext" : Str)) := by decide +kernel
@[simp] theorem sx_27_33 : ¬ (("xor" : Str) = ("ashr" : Str)) := by decide +kernel
@[simp] theorem sx_27_34 : ¬ (("xor" : Str) = ("ge" : Str)) := by decide +kernel
@[simp] theorem sx_28_0 : ¬ (("s" : Str) = ("burnish.words" : Str)) := by decide +kernel
@[simp] theorem sx_28_1 : ¬ (("s" : Str) = ("burnish.lattice" : Str)) := by decide +kernel
@[simp] theorem sx_28_2 : ¬ (("s" : Str) = ("i1" : Str)) := by decide +kernel
@[simp] theorem sx_28_3 : ¬ (("s" : Str) = ("i8" : Str)) := by decide +kernel
@[simp] theorem sx_28_4 : ¬ (("s" : Str) = ("i16" : Str)) := by decide +kernel
@[simp] theorem sx_28_5 : ¬ (("s" : Str) = ("i32" : Str)) := by decide +kernel
@[simp] theorem sx_28_6 : ¬ (("s" : Str) = ("i64" : Str)) := by decide +kernel
@[simp] theorem sx_28_7 : ¬ (("s" : Str) = ("eq" : Str)) := by decide +kernel
@[simp] theorem sx_28_8 : ¬ (("s" : Str) = ("ne" : Str)) := by decide +kernel
@[simp] theorem sx_28_9 : ¬ (("s" : Str) = ("ult" : Str)) := by decide +kernel
@[simp] theorem sx_28_10 : ¬ (("s" : Str) = ("uge" : Str)) := by decide +kernel
@[simp] theorem sx_28_11 : ¬ (("s" : Str) = ("ule" : Str)) := by decide +kernel
@[simp] theorem sx_28_12 : ¬ (("s" : Str) = ("ugt" : Str)) := by decide +kernel
@[simp] theorem sx_28_13 : ¬ (("s" : Str) = ("slt" : Str)) := by decide +kernel
@[simp] theorem sx_28_14 : ¬ (("s" : Str) = ("sge" : Str)) := by decide +kernel
@[simp] theorem sx_28_15 : ¬ (("s" : Str) = ("sle" : Str)) := by decide +kernel
@[simp] theorem sx_28_16 : ¬ (("s" : Str) = ("sgt" : Str)) := by decide +kernel
@[simp] theorem sx_28_17 : ¬ (("s" : Str) = ("shl" : Str)) := by decide +kernel
@[simp] theorem sx_28_18 : ¬ (("s" : Str) = ("lshr" : Str)) := by decide +kernel
@[simp] theorem sx_28_19 : ¬ (("s" : Str) = ("udiv" : Str)) := by decide +kernel
@[simp] theorem sx_28_20 : ¬ (("s" : Str) = ("urem" : Str)) := by decide +kernel
@[simp] theorem sx_28_21 : ¬ (("s" : Str) = ("sdiv" : Str)) := by decide +kernel
@[simp] theorem sx_28_22 : ¬ (("s" : Str) = ("add" : Str)) := by decide +kernel
@[simp] theorem sx_28_23 : ¬ (("s" : Str) = ("sub" : Str)) := by decide +kernel
@[simp] theorem sx_28_24 : ¬ (("s" : Str) = ("mul" : Str)) := by decide +kernel
@[simp] theorem sx_28_25 : ¬ (("s" : Str) = ("and" : Str)) := by decide +kernel
@[simp] theorem sx_28_26 : ¬ (("s" : Str) = ("or" : Str)) := by decide +kernel
@[simp] theorem sx_28_27 : ¬ (("s" : Str) = ("xor" : Str)) := by decide +kernel
@[simp] theorem sx_28_29 : ¬ (("s" : Str) = ("lt" : Str)) := by decide +kernel
@[simp] theorem sx_28_30 : ¬ (("s" : Str) = ("le" : Str)) := by decide +kernel
@[simp] theorem sx_28_31 : ¬ (("s" : Str) = ("gt" : Str)) := by decide +kernel
@[simp] theorem sx_28_32 : ¬ (("s" : Str) = ("sext" : Str)) := by decide +kernel
@[simp] theorem sx_28_33 : ¬ (("s" : Str) = ("ashr" : Str)) := by decide +kernel
@[simp] theorem sx_28_34 : ¬ (("s" : Str) = ("ge" : Str)) := by decide +kernel
@[simp] theorem sx_29_0 : ¬ (("lt" : Str) = ("burnish.words" : Str)) := by decide +kernel
@[simp] theorem sx_29_1 : ¬ (("lt" : Str) = ("burnish.lattice" : Str)) := by decide +kernel
@[simp] theorem sx_29_2 : ¬ (("lt" : Str) = ("i1" : Str)) := by decide +kernel
@[simp] theorem sx_29_3 : ¬ (("lt" : Str) = ("i8" : Str)) := by decide +kernel
@[simp] theorem sx_29_4 : ¬ (("lt" : Str) = ("i16" : Str)) := by decide +kernel
@[simp] theorem sx_29_5 : ¬ (("lt" : Str) = ("i32" : Str)) := by decide +kernel
@[simp] theorem sx_29_6 : ¬ (("lt" : Str) = ("i64" : Str)) := by decide +kernel
@[simp] theorem sx_29_7 : ¬ (("lt" : Str) = ("eq" : Str)) := by decide +kernel
@[simp] theorem sx_29_8 : ¬ (("lt" : Str) = ("ne" : Str)) := by decide +kernel
@[simp] theorem sx_29_9 : ¬ (("lt" : Str) = ("ult" : Str)) := by decide +kernel
@[simp] theorem sx_29_10 : ¬ (("lt" : Str) = ("uge" : Str)) := by decide +kernel
@[simp] theorem sx_29_11 : ¬ (("lt" : Str) = ("ule" : Str)) := by decide +kernel
@[simp] theorem sx_29_12 : ¬ (("lt" : Str) = ("ugt" : Str)) := by decide +kernel
@[simp] theorem sx_29_13 : ¬ (("lt" : Str) = ("slt" : Str)) := by decide +kernel
@[simp] theorem sx_29_14 : ¬ (("lt" : Str) = ("sge" : Str)) := by decide +kernel
@[simp] theorem sx_29_15 : ¬ (("lt" : Str) = ("sle" : Str)) := by decide +kernel
@[simp] theorem sx_29_16 : ¬ (("lt" : Str) = ("sgt" : Str)) := by decide +kernel
@[simp] theorem sx_29_17 : ¬ (("lt" : Str) = ("shl" : Str)) := by decide +kernel
@[simp] theorem sx_29_18 : ¬ (("lt" : Str) = ("lshr" : Str)) := by decide +kernel
@[simp] theorem sx_29_19 : ¬ (("lt" : Str) = ("udiv" : Str)) := by decide +kernel
@[simp] theorem sx_29_20 : ¬ (("lt" : Str) = ("urem" : Str)) := by decide +kernel
@[simp] theorem sx_29_21 : ¬ (("lt" : Str) = ("sdiv" : Str)) := by decide +kernel
@[simp] theorem sx_29_22 : ¬ (("lt" : Str) = ("add" : Str)) := by decide +kernel
@[simp] theorem sx_29_23 : ¬ (("lt" : Str) = ("sub" : Str)) := by decide +kernel
@[simp] theorem sx_29_24 : ¬ (("lt" : Str) = ("mul" : Str)) := by decide +kernel
@[simp] theorem sx_29_25 : ¬ (("lt" : Str) = ("and" : Str)) := by decide +kernel
@[simp] theorem sx_29_26 : ¬ (("lt" : Str) = ("or" : Str)) := by decide +kernel
@[simp] theorem sx_29_27 : ¬ (("lt" : Str) = ("xor" : Str)) := by decide +kernel
@[simp] theorem sx_29_28 : ¬ (("lt" : Str) = ("s" : Str)) := by decide +kernel
@[simp] theorem sx_29_30 : ¬ (("lt" : Str) = ("le" : Str)) := by decide +kernel
@[simp] theorem sx_29_31 : ¬ (("lt" : Str) = ("gt" : Str)) := by decide +kernel
@[simp] theorem sx_29_32 : ¬ (("lt" : Str) = ("sext" : Str)) := by decide +kernel
@[simp] theorem sx_29_33 : ¬ (("lt" : Str) = ("ashr" : Str)) := by decide +kernel
@[simp] theorem sx_29_34 : ¬ (("lt" : Str) = ("ge" : Str)) := by decide +kernel
@[simp] theorem sx_30_0 : ¬ (("le" : Str) = ("burnish.words" : Str)) := by decide +kernel
@[simp] theorem sx_30_1 : ¬ (("le" : Str) = ("burnish.lattice" : Str)) := by decide +kernel
@[simp] theorem sx_30_2 : ¬ (("le" : Str) = ("i1" : Str)) := by decide +kernel
@[simp] theorem sx_30_3 : ¬ (("le" : Str) = ("i8" : Str)) := by decide +kernel
@[simp] theorem sx_30_4 : ¬ (("le" : Str) = ("i16" : Str)) := by decide +kernel
@[simp] theorem sx_30_5 : ¬ (("le" : Str) = ("i32" : Str)) := by decide +kernel
@[simp] theorem sx_30_6 : ¬ (("le" : Str) = ("i64" : Str)) := by decide +kernel
@[simp] theorem sx_30_7 : ¬ (("le" : Str) = ("eq" : Str)) := by decide +kernel
@[simp] theorem sx_30_8 : ¬ (("le" : Str) = ("ne" : Str)) := by decide +kernel
@[simp] theorem sx_30_9 : ¬ (("le" : Str) = ("ult" : Str)) := by decide +kernel
@[simp] theorem sx_30_10 : ¬ (("le" : Str) = ("uge" : Str)) := by decide +kernel
@[simp] theorem sx_30_11 : ¬ (("le" : Str) = ("ule" : Str)) := by decide +kernel
@[simp] theorem sx_30_12 : ¬ (("le" : Str) = ("ugt" : Str)) := by decide +kernel
@[simp] theorem sx_30_13 : ¬ (("le" : Str) = ("slt" : Str)) := by decide +kernel
@[simp] theorem sx_30_14 : ¬ (("le" : Str) = ("sge" : Str)) := by decide +kernel
@[simp] theorem sx_30_15 : ¬ (("le" : Str) = ("sle" : Str)) := by decide +kernel
@[simp] theorem sx_30_16 : ¬ (("le" : Str) = ("sgt" : Str)) := by decide +kernel
@[simp] theorem sx_30_17 : ¬ (("le" : Str) = ("shl" : Str)) := by decide +kernel
@[simp] theorem sx_30_18 : ¬ (("le" : Str) = ("lshr" : Str)) := by decide +kernel
@[simp] theorem sx_30_19 : ¬ (("le" : Str) = ("udiv" : Str)) := by decide +kernel
@[simp] theorem sx_30_20 : ¬ (("le" : Str) = ("urem" : Str)) := by decide +kernel
@[simp] theorem sx_30_21 : ¬ (("le" : Str) = ("sdiv" : Str)) := by decide +kernel
@[simp] theorem sx_30_22 : ¬ (("le" : Str) = ("add" : Str)) := by decide +kernel
@[simp] theorem sx_30_23 : ¬ (("le" : Str) = ("sub" : Str)) := by decide +kernel
@[simp] theorem sx_30_24 : ¬ (("le" : Str) = ("mul" : Str)) := by decide +kernel
@[simp] theorem sx_30_25 : ¬ (("le" : Str) = ("and" : Str)) := by decide +kernel
@[simp] theorem sx_30_26 : ¬ (("le" : Str) = ("or" : Str)) := by decide +kernel
@[simp] theorem sx_30_27 : ¬ (("le" : Str) = ("xor" : Str)) := by decide +kernel
@[simp] theorem sx_30_28 : ¬ (("le" : Str) = ("s" : Str)) := by decide +kernel
@[simp] theorem sx_30_29 : ¬ (("le" : Str) = ("lt" : Str)) := by decide +kernel
@[simp] theorem sx_30_31 : ¬ (("le" : Str) = ("gt" : Str)) := by decide +kernel
@[simp] theorem sx_30_32 : ¬ (("le" : Str) = ("sext" : Str)) := by decide +kernel
@[simp] theorem sx_30_33 : ¬ (("le" : Str) = ("ashr" : Str)) := by decide +kernel
@[simp] theorem sx_30_34 : ¬ (("le" : Str) = ("ge" : Str)) := by decide +kernel
@[simp] theorem sx_31_0 : ¬ (("gt" : Str) = ("burnish.words" : Str)) := by decide +kernel
@[simp] theorem sx_31_1 : ¬ (("gt" : Str) = ("burnish.lattice" : Str)) := by decide +kernel
@[simp] theorem sx_31_2 : ¬ (("gt" : Str) = ("i1" : Str)) := by decide +kernel
@[simp] theorem sx_31_3 : ¬ (("gt" : Str) = ("i8" : Str)) := by decide +kernel
@[simp] theorem sx_31_4 : ¬ (("gt" : Str) = ("i16" : Str)) := by decide +kernel
@[simp] theorem sx_31_5 : ¬ (("gt" : Str) = ("i32" : Str)) := by decide +kernel
@[simp] theorem sx_31_6 : ¬ (("gt" : Str) = ("i64" : Str)) := by decide +kernel
@[simp] theorem sx_31_7 : ¬ (("gt" : Str) = ("eq" : Str)) := by decide +kernel
@[simp] theorem sx_31_8 : ¬ (("gt" : Str) = ("ne" : Str)) := by decide +kernel
@[simp] theorem sx_31_9 : ¬ (("gt" : Str) = ("ult" : Str)) := by decide +kernel
@[simp] theorem sx_31_10 : ¬ (("gt" : Str) = ("uge" : Str)) := by decide +kernel
@[simp] theorem sx_31_11 : ¬ (("gt" : Str) = ("ule" : Str)) := by decide +kernel
@[simp] theorem sx_31_12 : ¬ (("gt" : Str) = ("ugt" : Str)) := by decide +kernel
@[simp] theorem sx_31_13 : ¬ (("gt" : Str) = ("slt" : Str)) := by decide +kernel
@[simp] theorem sx_31_14 : ¬ (("gt" : Str) = ("sge" : Str)) := by decide +kernel
@[simp] theorem sx_31_15 : ¬ (("gt" : Str) = ("sle" : Str)) := by decide +kernel
@[simp] theorem sx_31_16 : ¬ (("gt" : Str) = ("sgt" : Str)) := by decide +kernel
@[simp] theorem sx_31_17 : ¬ (("gt" : Str) = ("shl" : Str)) := by decide +kernel
@[simp] theorem sx_31_18 : ¬ (("gt" : Str) = ("lshr" : Str)) := by decide +kernel
@[simp] theorem sx_31_19 : ¬ (("gt" : Str) = ("udiv" : Str)) := by decide +kernel
@[simp] theorem sx_31_20 : ¬ (("gt" : Str) = ("urem" : Str)) := by decide +kernel
@[simp] theorem sx_31_21 : ¬ (("gt" : Str) = ("sdiv" : Str)) := by decide +kernel
@[simp] theorem sx_31_22 : ¬ (("gt" : Str) = ("add" : Str)) := by decide +kernel
@[simp] theorem sx_31_23 : ¬ (("gt" : Str) = ("sub" : Str)) := by decide +kernel
@[simp] theorem sx_31_24 : ¬ (("gt" : Str) = ("mul" : Str)) := by decide +kernel
@[simp] theorem sx_31_25 : ¬ (("gt" : Str) = ("and" : Str)) := by decide +kernel
@[simp] theorem sx_31_26 : ¬ (("gt" : Str) = ("or" : Str)) := by decide +kernel
@[simp] theorem sx_31_27 : ¬ (("gt" : Str) = ("xor" : Str)) := by decide +kernel
@[simp] theorem sx_31_28 : ¬ (("gt" : Str) = ("s" : Str)) := by decide +kernel
@[simp] theorem sx_31_29 : ¬ (("gt" : Str) = ("lt" : Str)) := by decide +kernel
@[simp] theorem sx_31_30 : ¬ (("gt" : Str) = ("le" : Str)) := by decide +kernel
@[simp] theorem sx_31_32 : ¬ (("gt" : Str) = ("sext" : Str)) := by decide +kernel
@[simp] theorem sx_31_33 : ¬ (("gt" : Str) = ("ashr" : Str)) := by decide +kernel
@[simp] theorem sx_31_34 : ¬ (("gt" : Str) = ("ge" : Str)) := by decide +kernel
@[simp] theorem sx_32_0 : ¬ (("sext" : Str) = ("burnish.words" : Str)) := by decide +kernel
@[simp] theorem sx_32_1 : ¬ (("sext" : Str) = ("burnish.lattice" : Str)) := by decide +kernel
@[simp] theorem sx_32_2 : ¬ (("sext" : Str) = ("i1" : Str)) := by decide +kernel
@[simp] theorem sx_32_3 : ¬ (("sext" : Str) = ("i8" : Str)) := by decide +kernel
@[simp] theorem sx_32_4 : ¬ (("sext" : Str) = ("i16" : Str)) := by decide +kernel
@[simp] theorem sx_32_5 : ¬ (("sext" : Str) = ("i32" : Str)) := by decide +kernel
@[simp] theorem sx_32_6 : ¬ (("sext" : Str) = ("i64" : Str)) := by decide +kernel
@[simp] theorem sx_32_7 : ¬ (("sext" : Str) = ("eq" : Str)) := by decide +kernel
@[simp] theorem sx_32_8 : ¬ (("sext" : Str) = ("ne" : Str)) := by decide +kernel
@[simp] theorem sx_32_9 : ¬ (("sext" : Str) = ("ult" : Str)) := by decide +kernel
@[simp] theorem sx_32_10 : ¬ (("sext" : Str) = ("uge" : Str)) := by decide +kernel
@[simp] theorem sx_32_11 : ¬ (("sext" : Str) = ("ule" : Str)) := by decide +kernel
@[simp] theorem sx_32_12 : ¬ (("sext" : Str) = ("ugt" : Str)) := by decide +kernel
@[simp] theorem sx_32_13 : ¬ (("sext" : Str) = ("slt" : Str)) := by decide +kernel
@[simp] theorem sx_32_14 : ¬ (("sext" : Str) = ("sge" : Str)) := by decide +kernel
@[simp] theorem sx_32_15 : ¬ (("sext" : Str) = ("sle" : Str)) := by decide +kernel
@[simp] theorem sx_32_16 : ¬ (("sext" : Str) = ("sgt" : Str)) := by decide +kernel
@[simp] theorem sx_32_17 : ¬ (("sext" : Str) = ("shl" : Str)) := by decide +kernel
@[simp] theorem sx_32_18 : ¬ (("sext" : Str) = ("lshr" : Str)) := by decide +kernel
@[simp] theorem sx_32_19 : ¬ (("sext" : Str) = ("udiv" : Str)) := by decide +kernel
@[simp] theorem sx_32_20 : ¬ (("sext" : Str) = ("urem" : Str)) := by decide +kernel
@[simp] theorem sx_32_21 : ¬ (("sext" : Str) = ("sdiv" : Str)) := by decide +kernel
@[simp] theorem sx_32_22 : ¬ (("sext" : Str) = ("add" : Str)) := by decide +kernel
@[simp] theorem sx_32_23 : ¬ (("sext" : Str) = ("sub" : Str)) := by decide +kernel
@[simp] theorem sx_32_24 : ¬ (("sext" : Str) = ("mul" : Str)) := by decide +kernel
@[simp] theorem sx_32_25 : ¬ (("sext" : Str) = ("and" : Str)) := by decide +kernel
@[simp] theorem sx_32_26 : ¬ (("sext" : Str) = ("or" : Str)) := by decide +kernel
@[simp] theorem sx_32_27 : ¬ (("sext" : Str) = ("xor" : Str)) := by decide +kernel
@[simp] theorem sx_32_28 : ¬ (("sext" : Str) = ("s" : Str)) := by decide +kernel
@[simp] theorem sx_32_29 : ¬ (("sext" : Str) = ("lt" : Str)) := by decide +kernel
@[simp] theorem sx_32_30 : ¬ (("sext" : Str) = ("le" : Str)) := by decide +kernel
@[simp] theorem sx_32_31 : ¬ (("sext" : Str) = ("gt" : Str)) := by decide +kernel
@[simp] theorem sx_32_33 : ¬ (("sext" : Str) = ("ashr" : Str)) := by decide +kernel
@[simp] theorem sx_32_34 : ¬ (("sext" : Str) = ("ge" : Str)) := by decide +kernel
@[simp] theorem sx_33_0 : ¬ (("ashr" : Str) = ("burnish.words" : Str)) := by decide +kernel
@[simp] theorem sx_33_1 : ¬ (("ashr" : Str) = ("burnish.lattice" : Str)) := by decide +kernel
@[simp] theorem sx_33_2 : ¬ (("ashr" : Str) = ("i1" : Str)) := by decide +kernel
@[simp] theorem sx_33_3 : ¬ (("ashr" : Str) = ("i8" : Str)) := by decide +kernel
@[simp] theorem sx_33_4 : ¬ (("ashr" : Str) = ("i16" : Str)) := by decide +kernel
@[simp] theorem sx_33_5 : ¬ (("ashr" : Str) = ("i32" : Str)) := by decide +kernel
@[simp] theorem sx_33_6 : ¬ (("ashr" : Str) = ("i64" : Str)) := by decide +kernel
@[simp] theorem sx_33_7 : ¬ (("ashr" : Str) = ("eq" : Str)) := by decide +kernel
@[simp] theorem sx_33_8 : ¬ (("ashr" : Str) = ("ne" : Str)) := by decide +kernel
@[simp] theorem sx_33_9 : ¬ (("ashr" : Str) = ("ult" : Str)) := by decide +kernel
@[simp] theorem sx_33_10 : ¬ (("ashr" : Str) = ("uge" : Str)) := by decide +kernel
@[simp] theorem sx_33_11 : ¬ (("ashr" : Str) = ("ule" : Str)) := by decide +kernel
@[simp] theorem sx_33_12 : ¬ (("ashr" : Str) = ("ugt" : Str)) := by decide +kernel
@[simp] theorem sx_33_13 : ¬ (("ashr" : Str) = ("slt" : Str)) := by decide +kernel
@[simp] theorem sx_33_14 : ¬ (("ashr" : Str) = ("sge" : Str)) := by decide +kernel
@[simp] theorem sx_33_15 : ¬ (("ashr" : Str) = ("sle" : Str)) := by decide +kernel
@[simp] theorem sx_33_16 : ¬ (("ashr" : Str) = ("sgt" : Str)) := by decide +kernel
@[simp] theorem sx_33_17 : ¬ (("ashr" : Str) = ("shl" : Str)) := by decide +kernel
@[simp] theorem sx_33_18 : ¬ (("ashr" : Str) = ("lshr" : Str)) := by decide +kernel
@[simp] theorem sx_33_19 : ¬ (("ashr" : Str) = ("udiv" : Str)) := by decide +kernel
@[simp] theorem sx_33_20 : ¬ (("ashr" : Str) = ("urem" : Str)) := by decide +kernel
@[simp] theorem sx_33_21 : ¬ (("ashr" : Str) = ("sdiv" : Str)) := by decide +kernel
@[simp] theorem sx_33_22 : ¬ (("ashr" : Str) = ("add" : Str)) := by decide +kernel
@[simp] theorem sx_33_23 : ¬ (("ashr" : Str) = ("sub" : Str)) := by decide +kernel
@[simp] theorem sx_33_24 : ¬ (("ashr" : Str) = ("mul" : Str)) := by decide +kernel
@[simp] theorem sx_33_25 : ¬ (("ashr" : Str) = ("and" : Str)) := by decide +kernel
@[simp] theorem sx_33_26 : ¬ (("ashr" : Str) = ("or" : Str)) := by decide +kernel
@[simp] theorem sx_33_27 : ¬ (("ashr" : Str) = ("xor" : Str)) := by decide +kernel
@[simp] theorem sx_33_28 : ¬ (("ashr" : Str) = ("s" : Str)) := by decide +kernel
@[simp] theorem sx_33_29 : ¬ (("ashr" : Str) = ("lt" : Str)) := by decide +kernel
@[simp] theorem sx_33_30 : ¬ (("ashr" : Str) = ("le" : Str)) := by decide +kernel
@[simp] theorem sx_33_31 : ¬ (("ashr" : Str) = ("gt" : Str)) := by decide +kernel
@[simp] theorem sx_33_32 : ¬ (("ashr" : Str) = ("sext" : Str)) := by decide +kernel
@[simp] theorem sx_33_34 : ¬ (("ashr" : Str) = ("ge" : Str)) := by decide +kernel
@[simp] theorem sx_34_0 : ¬ (("ge" : Str) = ("burnish.words" : Str)) := by decide +kernel
@[simp] theorem sx_34_1 : ¬ (("ge" : Str) = ("burnish.lattice" : Str)) := by decide +kernel
@[simp] theorem sx_34_2 : ¬ (("ge" : Str) = ("i1" : Str)) := by decide +kernel
@[simp] theorem sx_34_3 : ¬ (("ge" : Str) = ("i8" : Str)) := by decide +kernel
@[simp] theorem sx_34_4 : ¬ (("ge" : Str) = ("i16" : Str)) := by decide +kernel
@[simp] theorem sx_34_5 : ¬ (("ge" : Str) = ("i32" : Str)) := by decide +kernel
@[simp] theorem sx_34_6 : ¬ (("ge" : Str) = ("i64" : Str)) := by decide +kernel
@[simp] theorem sx_34_7 : ¬ (("ge" : Str) = ("eq" : Str)) := by decide +kernel
@[simp] theorem sx_34_8 : ¬ (("ge" : Str) = ("ne" : Str)) := by decide +kernel
@[simp] theorem sx_34_9 : ¬ (("ge" : Str) = ("ult" : Str)) := by decide +kernel
@[simp] theorem sx_34_10 : ¬ (("ge" : Str) = ("uge" : Str)) := by decide +kernel
@[simp] theorem sx_34_11 : ¬ (("ge" : Str) = ("ule" : Str)) := by decide +kernel
@[simp] theorem sx_34_12 : ¬ (("ge" : Str) = ("ugt" : Str)) := by decide +kernel
@[simp] theorem sx_34_13 : ¬ (("ge" : Str) = ("slt" : Str)) := by decide +kernel
@[simp] theorem sx_34_14 : ¬ (("ge" : Str) = ("sge" : Str)) := by decide +kernel
@[simp] theorem sx_34_15 : ¬ (("ge" : Str) = ("sle" : Str)) := by decide +kernel
@[simp] theorem sx_34_16 : ¬ (("ge" : Str) = ("sgt" : Str)) := by decide +kernel
@[simp] theorem sx_34_17 : ¬ (("ge" : Str) = ("shl" : Str)) := by decide +kernel
@[simp] theorem sx_34_18 : ¬ (("ge" : Str) = ("lshr" : Str)) := by decide +kernel
@[simp] theorem sx_34_19 : ¬ (("ge" : Str) = ("udiv" : Str)) := by decide +kernel
@[simp] theorem sx_34_20 : ¬ (("ge" : Str) = ("urem" : Str)) := by decide +kernel
@[simp] theorem sx_34_21 : ¬ (("ge" : Str) = ("sdiv" : Str)) := by decide +kernel
@[simp] theorem sx_34_22 : ¬ (("ge" : Str) = ("add" : Str)) := by decide +kernel
@[simp] theorem sx_34_23 : ¬ (("ge" : Str) = ("sub" : Str)) := by decide +kernel
@[simp] theorem sx_34_24 : ¬ (("ge" : Str) = ("mul" : Str)) := by decide +kernel
@[simp] theorem sx_34_25 : ¬ (("ge" : Str) = ("and" : Str)) := by decide +kernel
@[simp] theorem sx_34_26 : ¬ (("ge" : Str) = ("or" : Str)) := by decide +kernel
@[simp] theorem sx_34_27 : ¬ (("ge" : Str) = ("xor" : Str)) := by decide +kernel
@[simp] theorem sx_34_28 : ¬ (("ge" : Str) = ("s" : Str)) := by decide +kernel
@[simp] theorem sx_34_29 : ¬ (("ge" : Str) = ("lt" : Str)) := by decide +kernel
@[simp] theorem sx_34_30 : ¬ (("ge" : Str) = ("le" : Str)) := by decide +kernel
@[simp] theorem sx_34_31 : ¬ (("ge" : Str) = ("gt" : Str)) := by decide +kernel
@[simp] theorem sx_34_32 : ¬ (("ge" : Str) = ("sext" : Str)) := by decide +kernel
@[simp] theorem sx_34_33 : ¬ (("ge" : Str) = ("ashr" : Str)) := by decide +kernel
section
variable {P : Program} {w : World} {K : PySem.W.Frag} {mg : Str → Option Value} {base : Heap}
/-! ### the numbers that the law draws -/
theorem seed_ok {x y : Int} (h : 0 ≤ x) (h2 : x < 2147483647) (h3 : 0 ≤ y) : 0 ≤ (x * 48271 + y) % 2147483647 ∧ (x * 48271 + y) % 2147483647 < 2147483647 :=
  ⟨Int.emod_nonneg _ (by decide), Int.emod_lt_of_pos _ (by decide)⟩
theorem G__law_take (T : Txt K mg w) : FnOk P w K mg base CX0 1 T.f__law_take T.fd__law_take ["draw", "many"] (toSp K 2 spTake) := by
  refine T.F__law_take.ok sc__law_take (fun vs H Q E h => h.1) (fun cdv A outer s H vs Q E hr h => ?_)
  obtain ⟨_, ex, H0, rs, Φ, wf, ra, ⟨many, rfl, ⟨h0, hm⟩, hΦ⟩, q⟩ := h
  obtain ⟨p, vm, rfl, hp, hvm⟩ : ∃ p vm, vs = [.ref p, vm] ∧ ex = some p ∧ vm = .int many := by
    cases ra with
    | cons a r =>
      cases r with
      | cons b r2 =>
        cases r2
        obtain ⟨p, h1, rfl⟩ := a
        cases b
        exact ⟨p, _, rfl, h1, rfl⟩
  subst hvm
  subst hp
  obtain ⟨c, i, v, sd, cells, hH, hc, hn, hcell, hi, hv, hs0, hs1⟩ := wf.dr p rfl
  have hcH : H c = some (.lst (cells.map V.int)) := wf.sub _ _ hc
  have hcp : c ≠ p := fun z => by rw [z, hn] at hc; cases hc
  have wr : ∀ (i' v' s' : Int), -1 ≤ i' → 0 ≤ v' → 0 ≤ s' → s' < 2147483647 → Wf ⟨K, some p, H, H0⟩ H0 (upd H p (.lst [.ref c, .int i', .int v', .int s'])) := fun i' v' s' a1 a2 a3 a4 =>
    wf.draw (i := i) (v := v) (s := sd) rfl hH a1 a2 a3 a4
  refine ⟨_, (pss_cons (ps_if (pt_cmpR op_eq (pe_ix ix_list (pv 0) pe_int (fun _ _ => rfl)) pe_int (nomark _)) (pss_cons (ps_asg (pe_op op_add (pe_ix ix_list (pv 0) pe_int (fun _ _ => rfl)) pe_int) (pg_sub (pv 0) pe_int set_list))
 (pss_cons (ps_if (pt_cmpR op_lt (pe_ix ix_list (pv 0) pe_int (fun _ _ => rfl)) (pe_callB call_len_seq (by rfl) T.len PySem.boot_len (pa_cons (pe_ix ix_list (pv 0) pe_int (fun _ _ => rfl)) pa_nil)) (nomark _)) (pss_one (ps_asg (pe_ix ix_list (pe_ix ix_list (pv 0) pe_int (fun _ _ => rfl)) (pe_ix ix_list (pv 0) pe_int (fun _ _ => rfl)) (fun _ _ => rfl)) (pg_sub (pv 0) pe_int set_list))) pss_nil)
 (pss_one (ps_if (pt_cmpR op_eq (pe_ix ix_list (pv 0) pe_int (fun _ _ => rfl)) pe_int (nomark _)) (pss_cons (ps_asg (pe_op op_mod (pe_callTy call_int1 (by rfl) T.int (by decide +kernel) (pa_cons (pe_op op_add (pe_op op_mul (pe_ix ix_list (pv 0) pe_int (fun _ _ => rfl)) pe_int) pe_int) pa_nil)) pe_int) (pg_sub (pv 0) pe_int set_list))
 (pss_one (ps_asg (pe_ix ix_list (pv 0) pe_int (fun _ _ => rfl)) (pg_sub (pv 0) pe_int set_list)))) pss_nil)))) pss_nil)
 (pss_cons (ps_set (i := 2) sc__law_take.nd rfl (Or.inl rfl) (pe_op op_mod (pe_callTy call_int1 (by rfl) T.int (by decide +kernel) (pa_cons (pe_ix ix_list (pv 0) pe_int (fun _ _ => rfl)) pa_nil)) (pv 1)))
 (pss_cons (ps_asg (pe_op op_fdivW (pe_ix ix_list (pv 0) pe_int (fun _ _ => rfl)) (pv 1)) (pg_sub (pv 0) pe_int set_list))
 (pss_one (ps_ret (pv 2)))))), ?_⟩
  -- what stands behind the first test
  have rest : ∀ (i' v' s' : Int), -1 ≤ i' → 0 ≤ v' → 0 ≤ s' → s' < 2147483647 → ∀ H', H' p = some (.lst [.ref c, .int i', .int v', .int s']) → (∀ v2 : Int, upd H' p (.lst [.ref c, .int i', .int v2, .int s']) = upd H p (.lst [.ref c, .int i', .int v2, .int s'])) →
      (∀ D : Ends, D.rt = Q → tSeq (tAsg (tOp (rI (fun _ j => 0 < j) fun i j => .int (i % j)) (tCB (fun xs H Q => (∃ i, xs = [.int i] ∧ Q (.int i) H) ∨ ∃ k, xs = [.bl k] ∧ Q (.int (if k then 1 else 0)) H) (tCons (tOp (rIxL K) (tVar 0) (tC (.int 2))) tNil)) (tVar 1)) (gName 2))
        (tSeq (tAsg (tOp (rI CDivW fun i j => .int (i / j)) (tOp (rIxL K) (tVar 0) (tC (.int 2))) (tVar 1)) (gSub (tVar 0) (tC (.int 2)) rSetL)) (tRet (tVar 2))) D [some (.ref p), some (.int many), none] H') := by
    intro i' v' s' a1 a2 a3 a4 H' hp he D hD
    refine ⟨_, rfl, _, _, _, _, rfl, rfl, SqL.of hp, rfl, .inl ⟨v', rfl, _, rfl, v', many, rfl, rfl, h0, ?_⟩⟩
    refine ⟨_, rfl, _, _, _, _, rfl, rfl, SqL.of hp, rfl, _, rfl, v', many, rfl, rfl, wide_div h0 hm (by decide) (by decide), _, rfl, p, _, 2, 2, rfl, rfl, hp, rfl, ?_⟩
    refine ⟨_, rfl, ?_⟩
    show D.rt (.int (v' % many)) (upd H' p (.lst [.ref c, .int i', .int (v' / many), .int s']))
    rw [hD, he]
    exact q H0 _ _ (.d (.int (v' % many))) (wr i' (v' / many) s' a1 (Int.ediv_nonneg a2 (Int.le_of_lt h0)) a3 a4) (.int _) (hΦ _ (Int.emod_nonneg _ (by omega)) (Int.emod_lt_of_pos _ h0))
  refine ⟨_, rfl, _, _, _, _, rfl, rfl, SqL.of hH, rfl, rfl, _, rfl, ite2 (fun e => ?_) (fun e => rest i v sd hi hv hs0 hs1 H hH (fun _ => rfl) _ rfl)⟩
  -- draw[1] = draw[1] + 1
  refine ⟨_, rfl, _, _, _, _, rfl, rfl, SqL.of hH, rfl, _, _, rfl, rfl, _, rfl, p, _, 1, 1, rfl, rfl, hH, rfl, ?_⟩
  have h1 : (upd H p (.lst [.ref c, .int (i + 1), .int v, .int sd])) p = some (.lst [.ref c, .int (i + 1), .int v, .int sd]) := upd_same
  have h1c : (upd H p (.lst [.ref c, .int (i + 1), .int v, .int sd])) c = some (.lst (cells.map V.int)) := by rw [upd_ne hcp]; exact hcH
  -- the last part: a new number, if there is none
  have last : ∀ (v' : Int), 0 ≤ v' → ∀ (H' : Hp) (D : Ends), H' p = some (.lst [.ref c, .int (i + 1), .int v', .int sd]) → (∀ o, upd H' p o = upd H p o) → (∀ v2 s2, 0 ≤ v2 → 0 ≤ s2 → s2 < 2147483647 → ∀ H2, H2 p = some (.lst [.ref c, .int (i + 1), .int v2, .int s2]) → (∀ o, upd H2 p o = upd H p o) → D.nx [some (.ref p), some (.int many), none] H2) →
      tIfS (tTest (tOp rEq (tOp (rIxL K) (tVar 0) (tC (.int 2))) (tC (.int 0)))) (tSeq (tAsg (tOp (rI (fun _ j => 0 < j) fun i j => .int (i % j)) (tCB (fun xs H Q => (∃ i, xs = [.int i] ∧ Q (.int i) H) ∨ ∃ k, xs = [.bl k] ∧ Q (.int (if k then 1 else 0)) H) (tCons (tOp (rI0 fun i j => .int (i + j)) (tOp (rI CMul fun i j => .int (i * j)) (tOp (rIxL K) (tVar 0) (tC (.int 3))) (tC (.int 48271))) (tC (.int 11))) tNil)) (tC (.int 2147483647))) (gSub (tVar 0) (tC (.int 3)) rSetL))
        (tAsg (tOp (rIxL K) (tVar 0) (tC (.int 3))) (gSub (tVar 0) (tC (.int 2)) rSetL))) tNext D [some (.ref p), some (.int many), none] H' := by
    intro v' hv' H' D hp' ho hD
    refine ⟨_, rfl, _, _, _, _, rfl, rfl, SqL.of hp', rfl, rfl, _, rfl, ite2 (fun e => ?_) (fun e => hD v' sd hv' hs0 hs1 H' hp' ho)⟩
    refine ⟨_, rfl, _, _, _, _, rfl, rfl, SqL.of hp', rfl, _, _, rfl, rfl, .inl ⟨by omega, by omega⟩, _, _, rfl, rfl, .inl ⟨_, rfl, _, _, rfl, rfl, (by show (0 : Int) < 2147483647; decide), _, rfl, p, _, 3, 3, rfl, rfl, hp', rfl, ?_⟩⟩
    obtain ⟨g1, g2⟩ := seed_ok (y := 11) hs0 hs1 (by decide)
    refine ⟨_, rfl, _, _, _, _, rfl, rfl, SqL.of upd_same, rfl, _, rfl, p, _, 2, 2, rfl, rfl, upd_same, rfl, ?_⟩
    refine hD _ _ g1 g1 g2 _ upd_same (fun o => ?_)
    rw [upd_upd, upd_upd, ho]
  -- if draw[1] < len(draw[0])
  refine ⟨_, rfl, _, _, _, _, rfl, rfl, SqL.of h1, rfl, _, rfl, _, _, _, _, rfl, rfl, SqL.of h1, rfl, c, _, rfl, .inl (SqL.of h1c), _, _, rfl, rfl, _, rfl, ite2 (fun e2 => ?_) (fun e2 => ?_)⟩
  · have e3 : i + 1 < (cells.length : Int) := by
      have := of_decide_eq_true e2
      rw [List.length_map] at this
      exact this
    obtain ⟨j, hj⟩ : ∃ j : Nat, i + 1 = (j : Int) := ⟨(i + 1).toNat, by omega⟩
    have hjl : j < cells.length := by omega
    have hx : (cells.map V.int)[j]? = some (.int cells[j]) := by rw [List.getElem?_map, List.getElem?_eq_getElem hjl]; rfl
    refine ⟨_, rfl, _, _, _, _, rfl, rfl, SqL.of h1, rfl, _, rfl, _, _, _, _, rfl, rfl, SqL.of h1, rfl, c, _, _, _, rfl, rfl, SqL.of h1c, (by rw [hj]; exact atI_nat hx), _, rfl, p, _, 2, 2, rfl, rfl, h1, rfl, ?_⟩
    refine last cells[j] (hcell _ (List.getElem_mem _)) _ _ upd_same (fun o => by rw [upd_upd, upd_upd]) (fun v2 s2 b1 b2 b3 H2 hp2 ho2 => ?_)
    exact rest (i + 1) v2 s2 (by omega) b1 b2 b3 H2 hp2 (fun _ => ho2 _) _ rfl
  · refine last v hv _ _ h1 (fun o => by rw [upd_upd]) (fun v2 s2 b1 b2 b3 H2 hp2 ho2 => ?_)
    exact rest (i + 1) v2 s2 (by omega) b1 b2 b3 H2 hp2 (fun _ => ho2 _) _ rfl
theorem len__law_take : ∀ rs Φ, spTake rs Φ → rs.length = 2 := spTake_len
theorem G__law_draw (T : Txt K mg w) : FnOk P w K mg base CX0 1 T.f__law_draw T.fd__law_draw ["script"] (spDraw K) := by
  refine T.F__law_draw.ok sc__law_draw (fun vs H Q E h => ?_) (fun cdv A outer s H vs Q E hr h => ?_)
  · obtain ⟨a, ns, rfl, _⟩ := h
    rfl
  · obtain ⟨a, ns, rfl, hS, hlen, k⟩ := h
    refine ⟨_, (pss_cons (ps_set (i := 1) sc__law_draw.nd rfl (Or.inl rfl) pe_int)
 (pss_cons (ps_for PassesOwn.never rfl ((kpi_list (K := K) rfl (pv 0))) (pg_name (i := 2) sc__law_draw.nd rfl (Or.inl rfl)) (pss_one (ps_set (i := 1) sc__law_draw.nd rfl (Or.inl rfl) (pe_op op_mod (pe_callTy call_int1 (by rfl) T.int (by decide +kernel) (pa_cons (pe_op op_add (pe_op op_add (pe_op op_mul (pv 1) pe_int) (pe_op op_mod (pe_callB call_abs (by rfl) T.abs (by decide +kernel) (pa_cons (pe_callTy call_int1 (by rfl) T.int (by decide +kernel) (pa_cons (pv 2) pa_nil)) pa_nil)) pe_int)) pe_int) pa_nil)) pe_int))))
 (pss_one (ps_ret (pe_lst (pa_cons (pe_lc (own := [("cell", 2)]) (g := gName 2) (tt := tYes) rfl sc__law_draw.nd ((kpi_list (K := K) rfl (pv 0))) (blkOk_by (N := ["script", "seed", "cell"]) (sc := defScope s_law_draw) (by decide +kernel)) (fun _ _ _ _ _ => pg_name (i := 2) sc__law_draw.nd rfl (Or.inl rfl)) (fun _ _ _ _ _ => pts_nil) (fun _ _ _ _ _ => (pe_callB call_abs (by rfl) T.abs (by decide +kernel) (pa_cons (pe_callTy call_int1 (by rfl) T.int (by decide +kernel) (pa_cons (pv 2) pa_nil)) pa_nil)))) (pa_cons (pe_un un_neg pe_int) (pa_cons pe_int (pa_cons (pv 1) pa_nil))))))))), ?_⟩
    refine ⟨_, rfl, a, rfl, ⟨_, hS⟩, for_list (K := K) (a := a) (xs := ns.map V.int) (fun i σ H' => ∃ (z : Int) (v : Option V), σ = [some (.ref a), some (.int z), v] ∧ H' = H ∧ 0 ≤ z ∧ z < 2147483647)
      ⟨7, none, rfl, rfl, by decide, by decide⟩ (fun i σ H' _ ⟨_, _, _, e, _⟩ => e ▸ hS) ?_ ?_⟩
    · rintro i y σ H' hi ⟨z, v, rfl, rfl, z0, z1⟩
      obtain ⟨u, rfl⟩ : ∃ u, y = V.int u := by
        rw [List.getElem?_map] at hi
        cases e : ns[i]? with
        | none => rw [e] at hi; cases hi
        | some u => rw [e] at hi; exact ⟨u, (Option.some.inj hi).symm⟩
      refine ⟨_, rfl, _, _, rfl, rfl, .inl ⟨by omega, by omega⟩, _, rfl, .inl ⟨_, rfl, _, rfl, _, _, rfl, rfl, (by show (0 : Int) < 65521; decide), _, _, rfl, rfl, _, _, rfl, rfl, .inl ⟨_, rfl, _, _, rfl, rfl, (by show (0 : Int) < 2147483647; decide), ?_⟩⟩⟩
      exact ⟨_, some (.int u), rfl, rfl, Int.emod_nonneg _ (by decide), Int.emod_lt_of_pos _ (by decide)⟩
    · rintro σ H' ⟨z, v, rfl, rfl, z0, z1⟩
      refine ⟨_, rfl, a, rfl, ⟨_, hS⟩, fun D hD => lc_list (K := K) (a := a) (xs := ns.map V.int) (fun i H2 => ∃ cells : List Int, H2 = upd H' D (.lst (cells.map V.int)) ∧ (∀ x ∈ cells, 0 ≤ x) ∧ cells.length ≤ i)
        ⟨[], rfl, fun _ h => (nomatch h), Nat.le_refl _⟩ (fun i H2 hi ⟨cells, e, _⟩ => ?_) ?_ ?_⟩
      · have sm : Same H' (upd H' D (.lst (cells.map V.int))) := fun b o e => by rw [upd_ne (ne_of_none e hD)]; exact e
        rw [e]
        exact sm.seq hS
      · rintro i y H2 hi ⟨cells, rfl, hc, hl⟩
        have hi63 : i < ns.length := by
          have q := (List.getElem?_eq_some_iff.mp hi).1
          rw [List.length_map] at q
          exact q
        obtain ⟨u, rfl⟩ : ∃ u, y = V.int u := by
          rw [List.getElem?_map] at hi
          cases e : ns[i]? with
          | none => rw [e] at hi; cases hi
          | some u => rw [e] at hi; exact ⟨u, (Option.some.inj hi).symm⟩
        refine ⟨rfl, ?_⟩
        unfold tYes
        dsimp only
        rw [if_pos rfl]
        refine ⟨_, rfl, .inl ⟨_, rfl, _, rfl, cells.map V.int, upd_same, ?_, cells ++ [if u < 0 then -u else u], ?_, ?_, ?_⟩⟩
        · rw [List.length_map]
          exact Nat.lt_of_le_of_lt (Nat.le_trans hl (Nat.le_of_lt (Nat.lt_of_lt_of_le hi63 hlen))) (by decide)
        · rw [upd_upd, List.map_append]
          rfl
        · intro x hx
          rcases List.mem_append.mp hx with hx | hx
          · exact hc x hx
          · rw [List.mem_singleton.mp hx]
            split <;> omega
        · rw [List.length_append]
          exact Nat.add_le_add_right hl 1
      · rintro H2 ⟨cells, rfl, hc, hl⟩
        refine ⟨_, rfl, ?_⟩
        refine ⟨_, rfl, (by show 4 ≤ sizeLine; decide), fun p hp => ?_⟩
        have np : D ≠ p := fun z => by rw [← z, upd_same] at hp; cases hp
        refine k _ p D z cells (fun b o e => ?_) upd_same ?_ np hc z0 z1
        · have e1 : upd H' D (.lst (cells.map V.int)) b = some o := by rw [upd_ne (ne_of_none e hD)]; exact e
          rw [upd_ne (ne_of_none e1 hp)]
          exact e1
        · rw [upd_ne np]
          exact upd_same

/-- the law's own call: how its row is made, then its body by data -/
theorem law_in {Kl : PySem.W.Frag} {a : Addr} {ns : List Int} {H : Hp} {Q : VK} {n : Nat} {t : TS} {d : DS} (hS : SqL Kl H a (ns.map V.int)) (hlen : ns.length ≤ 63) (k : ∀ H', Q (.bl true) H') (hd : ∀ (ex : Option Addr) (He Hf : Hp), SmS ⟨Kl, ex, He, Hf⟩ t d)
    (hp : ∀ raw : V, d { nx := fun _ => False, rt := fun r => r = .d (.bool true) } (some (.raw raw) :: some .drw :: List.replicate n none)) {E : XK} :
    tSeq (tAsg (tCall (spDraw Kl) [] E (tCons (tVar 0) tNil)) (gName 1)) t { nx := fun _ H' => Q .non H', rt := Q } (some (.ref a) :: none :: List.replicate n none) H :=
  ⟨.ref a, rfl, a, ns, rfl, hS, hlen, fun H' p c sd cells sm h1 h2 h3 h4 h5 h6 => law_start h1 h2 h3 h4 h5 h6 hd k hp⟩

def sgn (w : Nat) (x : Int) : Int := if 2 ^ (w - 1) ≤ x then x - 2 ^ w else x
theorem cp1 {j : Int} (h : 0 ≤ j) (h2 : j ≤ 1000) : CPow 1 j := ⟨h, by omega, by decide⟩
def Val (w : Nat) (x : Int) : Prop := 0 ≤ x ∧ x < 2 ^ w
theorem pow_le64 {w : Nat} (h : w ≤ 64) : (2 : Int) ^ w ≤ 18446744073709551616 := by
  have := Nat.pow_le_pow_right (n := 2) (by decide) h
  rw [← PySem.W.kbt_cast]
  exact Int.ofNat_le.mpr this
theorem pow_half {w : Nat} (h1 : 1 ≤ w) : (2 : Int) ^ w = 2 * 2 ^ (w - 1) := by
  obtain ⟨k, rfl⟩ : ∃ k, w = k + 1 := ⟨w - 1, by omega⟩
  rw [Int.pow_succ, Nat.add_sub_cancel, Int.mul_comm]
theorem sgn_bd {w : Nat} {x : Int} (h1 : 1 ≤ w) (h : Val w x) : -(2 ^ (w - 1)) ≤ sgn w x ∧ sgn w x < 2 ^ (w - 1) := by
  have := pow_half h1
  obtain ⟨a, b⟩ := h
  unfold sgn
  split <;> omega
theorem sgn_zero {w : Nat} {x : Int} (h1 : 1 ≤ w) (h : Val w x) (h0 : ¬ x = 0) : ¬ sgn w x = 0 := by
  have := pow_half h1
  obtain ⟨a, b⟩ := h
  unfold sgn
  split <;> omega
theorem pow_pos2 (w : Nat) : (0 : Int) < 2 ^ w := PySem.W.kbt_pos w
theorem minI (a b : Int) : (if b < a then b else a) = min a b := by omega
theorem log2_le {n k : Nat} (h : n < 2 ^ k) (hk : 0 < k) (hk2 : k ≤ 9000) : n.log2 < 9000 := Nat.lt_of_lt_of_le (PySem.Flt.log2_lt_of hk h) hk2
theorem cdw {i j : Int} (h : 0 < j) (h2 : j ≤ 18446744073709551616) : CDivW i j := ⟨h, log2_le (k := 65) (by omega) (by decide) (by decide)⟩

def b2i (b : Bool) : Int := if b then 1 else 0
def preds : List Str := ["eq", "ne", "ult", "ule", "ugt", "uge", "slt", "sle", "sgt", "sge"]
def cmpI (p : Str) (w : Nat) (x y : Int) : Bool := if p = "eq" then decide (x = y) else if p = "ne" then !decide (x = y) else if p = "ult" then decide (x < y) else if p = "ule" then decide (x ≤ y) else if p = "ugt" then decide (y < x) else if p = "uge" then decide (y ≤ x) else if p = "slt" then decide (sgn w x < sgn w y) else if p = "sle" then decide (sgn w x ≤ sgn w y) else if p = "sgt" then decide (sgn w y < sgn w x) else decide (sgn w y ≤ sgn w x)
def oppS (p : Str) : Str := if p = "eq" then "ne" else if p = "ne" then "eq" else if p = "ult" then "uge" else if p = "ule" then "ugt" else if p = "ugt" then "ule" else if p = "uge" then "ult" else if p = "slt" then "sge" else if p = "sle" then "sgt" else if p = "sgt" then "sle" else "slt"
def swpS (p : Str) : Str := if p = "eq" then "eq" else if p = "ne" then "ne" else if p = "ult" then "ugt" else if p = "ule" then "uge" else if p = "ugt" then "ult" else if p = "uge" then "ule" else if p = "slt" then "sgt" else if p = "sle" then "sge" else if p = "sgt" then "slt" else "sle"
theorem preds_cases {p : Str} (h : p ∈ preds) : p = "eq" ∨ p = "ne" ∨ p = "ult" ∨ p = "ule" ∨ p = "ugt" ∨ p = "uge" ∨ p = "slt" ∨ p = "sle" ∨ p = "sgt" ∨ p = "sge" := by
  simpa [preds] using h
def vp_opposite : VSp := fun rs Φ => ∃ (p : Str), rs = [.d (.str p)] ∧ p ∈ preds ∧ Φ (.d (.str (oppS p)))
theorem len_opposite : ∀ rs Φ, vp_opposite rs Φ → rs.length = 1 := fun rs Φ ⟨_, e, _⟩ => by rw [e]; rfl
theorem G_opposite (T : Txt K mg w) : FnOk P w K mg base CX0 1 T.f_opposite T.fd_opposite ["predicate"] (toSp K 1 vp_opposite) := by
  refine fn_ok T.F_opposite sc_opposite fun cdv A outer s H E hr => ⟨_, (pss_one (ps_ret (pe_ix (kx_kdict (K := K) (w := w) rfl rfl) (pe_glob (v := .ref T.a__OPPOSITES) rfl T.g__OPPOSITES rfl) (pv 0) (fun _ _ => rfl)))), _, fun ex He Hf => (sms_ret (sm_kd (f1 := false) rfl T.kd__OPPOSITES (sm_var 0))), ?_⟩
  rintro rs Φ ⟨p, rfl, hp, h⟩
  rcases preds_cases hp with rfl | rfl | rfl | rfl | rfl | rfl | rfl | rfl | rfl | rfl
  · simp [oppS] at h ⊢
    exact ⟨_, by simp [L__OPPOSITES], h⟩
  · simp [oppS] at h ⊢
    exact ⟨_, by simp [L__OPPOSITES], h⟩
  · simp [oppS] at h ⊢
    exact ⟨_, by simp [L__OPPOSITES], h⟩
  · simp [oppS] at h ⊢
    exact ⟨_, by simp [L__OPPOSITES], h⟩
  · simp [oppS] at h ⊢
    exact ⟨_, by simp [L__OPPOSITES], h⟩
  · simp [oppS] at h ⊢
    exact ⟨_, by simp [L__OPPOSITES], h⟩
  · simp [oppS] at h ⊢
    exact ⟨_, by simp [L__OPPOSITES], h⟩
  · simp [oppS] at h ⊢
    exact ⟨_, by simp [L__OPPOSITES], h⟩
  · simp [oppS] at h ⊢
    exact ⟨_, by simp [L__OPPOSITES], h⟩
  · simp [oppS] at h ⊢
    exact ⟨_, by simp [L__OPPOSITES], h⟩
def vp_swapped : VSp := fun rs Φ => ∃ (p : Str), rs = [.d (.str p)] ∧ p ∈ preds ∧ Φ (.d (.str (swpS p)))
theorem len_swapped : ∀ rs Φ, vp_swapped rs Φ → rs.length = 1 := fun rs Φ ⟨_, e, _⟩ => by rw [e]; rfl
theorem G_swapped (T : Txt K mg w) : FnOk P w K mg base CX0 1 T.f_swapped T.fd_swapped ["predicate"] (toSp K 1 vp_swapped) := by
  refine fn_ok T.F_swapped sc_swapped fun cdv A outer s H E hr => ⟨_, (pss_one (ps_ret (pe_ix (kx_kdict (K := K) (w := w) rfl rfl) (pe_glob (v := .ref T.a__SWAPPED) rfl T.g__SWAPPED rfl) (pv 0) (fun _ _ => rfl)))), _, fun ex He Hf => (sms_ret (sm_kd (f1 := false) rfl T.kd__SWAPPED (sm_var 0))), ?_⟩
  rintro rs Φ ⟨p, rfl, hp, h⟩
  rcases preds_cases hp with rfl | rfl | rfl | rfl | rfl | rfl | rfl | rfl | rfl | rfl
  · simp [swpS] at h ⊢
    exact ⟨_, by simp [L__SWAPPED], h⟩
  · simp [swpS] at h ⊢
    exact ⟨_, by simp [L__SWAPPED], h⟩
  · simp [swpS] at h ⊢
    exact ⟨_, by simp [L__SWAPPED], h⟩
  · simp [swpS] at h ⊢
    exact ⟨_, by simp [L__SWAPPED], h⟩
  · simp [swpS] at h ⊢
    exact ⟨_, by simp [L__SWAPPED], h⟩
  · simp [swpS] at h ⊢
    exact ⟨_, by simp [L__SWAPPED], h⟩
  · simp [swpS] at h ⊢
    exact ⟨_, by simp [L__SWAPPED], h⟩
  · simp [swpS] at h ⊢
    exact ⟨_, by simp [L__SWAPPED], h⟩
  · simp [swpS] at h ⊢
    exact ⟨_, by simp [L__SWAPPED], h⟩
  · simp [swpS] at h ⊢
    exact ⟨_, by simp [L__SWAPPED], h⟩
def vp_width : VSp := fun rs Φ => ∃ (p : Str) (v : PyData), rs = [.d (.str p)] ∧ (p, v) ∈ L__WIDTHS ∧ Φ (.d v)
theorem len_width : ∀ rs Φ, vp_width rs Φ → rs.length = 1 := fun rs Φ ⟨_, _, e, _⟩ => by rw [e]; rfl
theorem G_width (T : Txt K mg w) : FnOk P w K mg base CX0 1 T.f_width T.fd_width ["kind"] (toSp K 1 vp_width) := by
  refine fn_ok T.F_width sc_width fun cdv A outer s H E hr => ⟨_, (pss_one (ps_ret (pe_ix (kx_kdict (K := K) (w := w) rfl rfl) (pe_glob (v := .ref T.a__WIDTHS) rfl T.g__WIDTHS rfl) (pv 0) (fun _ _ => rfl)))), _, fun ex He Hf => (sms_ret (sm_kd (f1 := false) rfl T.kd__WIDTHS (sm_var 0))), ?_⟩
  rintro rs Φ ⟨p, v, rfl, hp, h⟩
  simp
  exact ⟨v, hp, h⟩


/-! ### ranges -/
structure Rg where
  l : Nat
  h : Nat
  z : Nat
  o : Nat
def rg (a : Rg) : PyData := .tuple [.int a.l, .int a.h, .int a.z, .int a.o]
theorem bA (x y : Nat) : Builtin.bitAnd (x : Int) (y : Int) = ((x &&& y : Nat) : Int) := by
  rw [PyProof.Rows.bitAnd_pp (Int.natCast_nonneg _) (Int.natCast_nonneg _)]
  rfl
theorem bO (x y : Nat) : Builtin.bitOr (x : Int) (y : Int) = ((x ||| y : Nat) : Int) := by
  have e : ∀ n : Nat, ¬ (0 : Int) ≤ -(n : Int) - 1 := fun n => by omega
  have e2 : ∀ n : Nat, - (-(n : Int) - 1) - 1 = (n : Int) := fun n => by omega
  unfold Builtin.bitOr
  rw [PySem.W.kbt_not, PySem.W.kbt_not, PySem.W.kbt_not]
  unfold Builtin.bitAnd
  rw [decide_eq_false (e x), decide_eq_false (e y)]
  dsimp only
  rw [PySem.W.kbt_not, PySem.W.kbt_not, PySem.W.kbt_not, e2, e2, e2]
  rfl

def unk (w : Nat) (a : Rg) : Bool := decide ((a.z ||| a.o) &&& 2 ^ (w - 1) = 0)
def lessD (s : Bool) (w : Nat) (a b : Rg) : Option Bool :=
  if s = true ∧ (unk w a = true ∨ unk w b = true) then none
  else if s = true ∧ a.o &&& 2 ^ (w - 1) ≠ b.o &&& 2 ^ (w - 1) then some (decide (a.o &&& 2 ^ (w - 1) ≠ 0))
  else if a.h < b.l then some true else if b.h ≤ a.l then some false else none
def eqR (a b : Rg) : Option Bool :=
  if a.h < b.l ∨ b.h < a.l ∨ a.o &&& b.z ≠ 0 ∨ a.z &&& b.o ≠ 0 then some false else if a.l = a.h ∧ b.l = b.h then some true else none
def oD : Option Bool → PyData
  | none => .none
  | some b => .int (if b then 1 else 0)
def dec (p : Str) (w : Nat) (a b : Rg) : Option Bool :=
  if p = "eq" then eqR a b else if p = "ne" then (eqR a b).map not
  else if p = "ult" then lessD false w a b else if p = "ule" then (lessD false w b a).map not else if p = "ugt" then lessD false w b a else if p = "uge" then (lessD false w a b).map not
  else if p = "slt" then lessD true w a b else if p = "sle" then (lessD true w b a).map not else if p = "sgt" then lessD true w b a else (lessD true w a b).map not
def vp_half_of : VSp := fun rs Φ => ∃ (k : Str) (w : Nat), rs = [.d (.str k)] ∧ (k, .int w) ∈ L__WIDTHS ∧ 1 ≤ w ∧ w ≤ 64 ∧ Φ (.d (.int ((2 ^ (w - 1) : Nat) : Int)))
theorem len_half_of : ∀ rs Φ, vp_half_of rs Φ → rs.length = 1 := fun rs Φ ⟨_, _, e, _⟩ => by rw [e]; rfl
theorem G_half_of (T : Txt K mg w) : FnOk P w K mg base CX0 2 T.f_half_of T.fd_half_of ["kind"] (toSp K 1 vp_half_of) := by
  refine fn_ok T.F_half_of sc_half_of fun cdv A outer s H E hr => ⟨_, (pss_one (ps_ret (pe_op op_shl pe_int (pe_op op_sub (pe_call (G_width T) hr (by rfl) T.g_width T.F_width.kp T.b_width .nil pass0 (pa_cons (pv 0) pa_nil)) pe_int)))), _, fun ex He Hf => (sms_ret (sm_op (f1 := false) (f2 := false) (opd_I (g' := fun i j => .int (i * 2 ^ j.toNat)) fun _ _ => rfl) (sm_int _) (sm_op (f1 := false) (f2 := false) (opd_I0 (g' := fun i j => .int (i - j)) fun _ _ => rfl) (sm_call len_width (smq_cons (sm_var 0) smq_nil)) (sm_int _)))), ?_⟩
  rintro rs Φ ⟨k, w, rfl, hk, h1, h2, h⟩
  rw [PySem.W.kbt_cast] at h
  have e1 : ((w : Int) - 1).toNat = w - 1 := by omega
  simp
  refine ⟨k, _, rfl, hk, ?_⟩
  simp [e1]
  exact ⟨cp1 (by omega) (by omega), h⟩

def vp_is_single : VSp := fun rs Φ => ∃ a : Rg, rs = [.d (rg a)] ∧ Φ (.d (.bool (decide (a.l = a.h))))
theorem len_is_single : ∀ rs Φ, vp_is_single rs Φ → rs.length = 1 := fun rs Φ ⟨_, e, _⟩ => by rw [e]; rfl
theorem G_is_single (T : Txt K mg w) : FnOk P w K mg base CX0 1 T.f_is_single T.fd_is_single ["bounds"] (toSp K 1 vp_is_single) := by
  refine fn_ok T.F_is_single sc_is_single fun cdv A outer s H E hr => ⟨_, (pss_one (ps_ret (pe_and (pe_cmpR op_notN (pv 0) pe_non (nomark _)) (pe_one (pe_cmpR op_eq (pe_ix (kx_seq (K := K) rfl) (pv 0) pe_int (fun _ _ => rfl)) (pe_ix (kx_seq (K := K) rfl) (pv 0) pe_int (fun _ _ => rfl)) (nomark _)))))), _, fun ex He Hf => (sms_ret (sm_and (f1 := false) (sm_op (f1 := false) (f2 := false) opd_notN (sm_var 0) sm_non) (sm_op (f1 := false) (f2 := false) opd_eq (sm_ix (f2 := false) (sm_var 0) (sm_int _)) (sm_ix (f2 := false) (sm_var 0) (sm_int _))))), ?_⟩
  rintro rs Φ ⟨a, rfl, h⟩
  simp [rg]
  rw [show decide (a.l = a.h) = decide ((a.l : Int) = (a.h : Int)) from decide_eq_decide.mpr Int.ofNat_inj.symm] at h
  exact h

def vp__equal : VSp := fun rs Φ => ∃ a b : Rg, rs = [.d (rg a), .d (rg b)] ∧ Φ (.d (oD (eqR a b)))
theorem len__equal : ∀ rs Φ, vp__equal rs Φ → rs.length = 2 := fun rs Φ ⟨_, _, e, _⟩ => by rw [e]; rfl
theorem G__equal (T : Txt K mg w) : FnOk P w K mg base CX0 2 T.f__equal T.fd__equal ["a", "b"] (toSp K 2 vp__equal) := by
  refine fn_ok T.F__equal sc__equal fun cdv A outer s H E hr => ⟨_, (pss_cons (ps_if (PW.pt (pw_or (pt_cmpR op_lt (pe_ix (kx_seq (K := K) rfl) (pv 0) pe_int (fun _ _ => rfl)) (pe_ix (kx_seq (K := K) rfl) (pv 1) pe_int (fun _ _ => rfl)) (nomark _)) (pw_or (pt_cmpR op_lt (pe_ix (kx_seq (K := K) rfl) (pv 1) pe_int (fun _ _ => rfl)) (pe_ix (kx_seq (K := K) rfl) (pv 0) pe_int (fun _ _ => rfl)) (nomark _)) (pw_or (pt_truth (pe_op op_and (pe_ix (kx_seq (K := K) rfl) (pv 0) pe_int (fun _ _ => rfl)) (pe_ix (kx_seq (K := K) rfl) (pv 1) pe_int (fun _ _ => rfl))) (by intro _; rfl)) (pw_or1 (pt_truth (pe_op op_and (pe_ix (kx_seq (K := K) rfl) (pv 0) pe_int (fun _ _ => rfl)) (pe_ix (kx_seq (K := K) rfl) (pv 1) pe_int (fun _ _ => rfl))) (by intro _; rfl))))))) (pss_one (ps_ret pe_int)) pss_nil)
 (pss_cons (ps_if (PW.pt (pw_and (pt_val (pe_call (G_is_single T) hr (by rfl) T.g_is_single T.F_is_single.kp T.b_is_single .nil pass0 (pa_cons (pv 0) pa_nil))) (pw_and1 (pt_val (pe_call (G_is_single T) hr (by rfl) T.g_is_single T.F_is_single.kp T.b_is_single .nil pass0 (pa_cons (pv 1) pa_nil)))))) (pss_one (ps_ret pe_int)) pss_nil)
 (pss_one (ps_ret pe_non)))), _, fun ex He Hf => (sms_seq (sms_if (smt_or (smt_t (f1 := false) (sm_op (f1 := false) (f2 := false) (opd_I0 (g' := fun i j => .bool (decide (i < j))) fun _ _ => rfl) (sm_ix (f2 := false) (sm_var 0) (sm_int _)) (sm_ix (f2 := false) (sm_var 1) (sm_int _)))) (smt_or (smt_t (f1 := false) (sm_op (f1 := false) (f2 := false) (opd_I0 (g' := fun i j => .bool (decide (i < j))) fun _ _ => rfl) (sm_ix (f2 := false) (sm_var 1) (sm_int _)) (sm_ix (f2 := false) (sm_var 0) (sm_int _)))) (smt_or (smt_tru (f1 := false) (sm_op (f1 := false) (f2 := false) (opd_I0 (g' := fun i j => .int (Builtin.bitAnd i j)) fun _ _ => rfl) (sm_ix (f2 := false) (sm_var 0) (sm_int _)) (sm_ix (f2 := false) (sm_var 1) (sm_int _)))) (smt_tru (f1 := false) (sm_op (f1 := false) (f2 := false) (opd_I0 (g' := fun i j => .int (Builtin.bitAnd i j)) fun _ _ => rfl) (sm_ix (f2 := false) (sm_var 0) (sm_int _)) (sm_ix (f2 := false) (sm_var 1) (sm_int _)))))))
 (sms_ret (sm_int _))
 sms_next)
 (sms_seq (sms_if (smt_and (smt_b (f1 := false) (sm_call len_is_single (smq_cons (sm_var 0) smq_nil))) (smt_b (f1 := false) (sm_call len_is_single (smq_cons (sm_var 1) smq_nil))))
 (sms_ret (sm_int _))
 sms_next)
 (sms_ret sm_non))), ?_⟩
  rintro rs Φ ⟨a, b, rfl, h⟩
  simp [rg, bA]
  by_cases c1 : a.h < b.l
  · simpa [eqR, c1, oD] using h
  by_cases c2 : b.h < a.l
  · simpa [eqR, c1, c2, oD] using h
  by_cases c3 : a.o &&& b.z = 0
  · by_cases c4 : a.z &&& b.o = 0
    · have cn : ¬ (a.h < b.l ∨ b.h < a.l ∨ a.o &&& b.z ≠ 0 ∨ a.z &&& b.o ≠ 0) := fun e => by
        rcases e with e | e | e | e
        · exact c1 e
        · exact c2 e
        · exact e c3
        · exact e c4
      simp only [if_neg c1, if_neg c2, if_pos c3, if_pos c4]
      refine ⟨a, rfl, ?_⟩
      by_cases c5 : a.l = a.h
      · refine .inr ⟨by simp [c5], b, rfl, ?_⟩
        by_cases c6 : b.l = b.h
        · rw [eqR, if_neg cn, if_pos ⟨c5, c6⟩] at h
          exact .inr ⟨by simp [c6], h⟩
        · rw [eqR, if_neg cn, if_neg fun e => c6 e.2] at h
          exact .inl ⟨by simp [c6], h⟩
      · rw [eqR, if_neg cn, if_neg fun e => c5 e.1] at h
        exact .inl ⟨by simp [c5], h⟩
    · simpa [eqR, c1, c2, c3, c4, oD] using h
  · simpa [eqR, c1, c2, c3, oD] using h
def vp__less : VSp := fun rs Φ => ∃ (s : Bool) (k : Str) (w : Nat) (a b : Rg), rs = [.d (.str (if s then "slt" else "ult")), .d (.str k), .d (rg a), .d (rg b)] ∧ (k, .int w) ∈ L__WIDTHS ∧ 1 ≤ w ∧ w ≤ 64 ∧ Φ (.d (oD (lessD s w a b)))
theorem len__less : ∀ rs Φ, vp__less rs Φ → rs.length = 4 := fun rs Φ ⟨_, _, _, _, _, e, _⟩ => by rw [e]; rfl
theorem G__less (T : Txt K mg w) : FnOk P w K mg base CX0 3 T.f__less T.fd__less ["predicate", "kind", "a", "b"] (toSp K 4 vp__less) := by
  refine fn_ok T.F__less sc__less fun cdv A outer s H E hr => ⟨_, (pss_cons (ps_if (pt_cmpR op_eq (pv 0) pe_str (nomark _)) (pss_cons (ps_set (i := 4) sc__less.nd rfl (Or.inl rfl) (pe_call (G_half_of T) hr (by rfl) T.g_half_of T.F_half_of.kp T.b_half_of .nil pass0 (pa_cons (pv 1) pa_nil)))
 (pss_cons (ps_if (PW.pt (pw_or (pt_not (pt_truth (pe_op op_and (pe_op op_or (pe_ix (kx_seq (K := K) rfl) (pv 2) pe_int (fun _ _ => rfl)) (pe_ix (kx_seq (K := K) rfl) (pv 2) pe_int (fun _ _ => rfl))) (pv 4)) (by intro _; rfl))) (pw_or1 (pt_not (pt_truth (pe_op op_and (pe_op op_or (pe_ix (kx_seq (K := K) rfl) (pv 3) pe_int (fun _ _ => rfl)) (pe_ix (kx_seq (K := K) rfl) (pv 3) pe_int (fun _ _ => rfl))) (pv 4)) (by intro _; rfl)))))) (pss_one (ps_ret pe_non)) pss_nil)
 (pss_one (ps_if (pt_cmpR op_ne (pe_op op_and (pe_ix (kx_seq (K := K) rfl) (pv 2) pe_int (fun _ _ => rfl)) (pv 4)) (pe_op op_and (pe_ix (kx_seq (K := K) rfl) (pv 3) pe_int (fun _ _ => rfl)) (pv 4)) (nomark _)) (pss_one (ps_ret (pe_ifExp (pt_truth (pe_op op_and (pe_ix (kx_seq (K := K) rfl) (pv 2) pe_int (fun _ _ => rfl)) (pv 4)) (by intro _; rfl)) pe_int pe_int))) pss_nil)))) pss_nil)
 (pss_cons (ps_if (pt_cmpR op_lt (pe_ix (kx_seq (K := K) rfl) (pv 2) pe_int (fun _ _ => rfl)) (pe_ix (kx_seq (K := K) rfl) (pv 3) pe_int (fun _ _ => rfl)) (nomark _)) (pss_one (ps_ret pe_int)) pss_nil)
 (pss_cons (ps_if (pt_cmpR op_ge (pe_ix (kx_seq (K := K) rfl) (pv 2) pe_int (fun _ _ => rfl)) (pe_ix (kx_seq (K := K) rfl) (pv 3) pe_int (fun _ _ => rfl)) (nomark _)) (pss_one (ps_ret pe_int)) pss_nil)
 (pss_one (ps_ret pe_non))))), _, fun ex He Hf => (sms_seq (sms_if (smt_t (f1 := false) (sm_op (f1 := false) (f2 := false) opd_eq (sm_var 0) (sm_str _)))
 (sms_seq (sms_asg (sm_call len_half_of (smq_cons (sm_var 1) smq_nil)) (smg_name 4))
 (sms_seq (sms_if (smt_or (smt_not (smt_tru (f1 := false) (sm_op (f1 := false) (f2 := false) (opd_I0 (g' := fun i j => .int (Builtin.bitAnd i j)) fun _ _ => rfl) (sm_op (f1 := false) (f2 := false) (opd_I0 (g' := fun i j => .int (Builtin.bitOr i j)) fun _ _ => rfl) (sm_ix (f2 := false) (sm_var 2) (sm_int _)) (sm_ix (f2 := false) (sm_var 2) (sm_int _))) (sm_var 4)))) (smt_not (smt_tru (f1 := false) (sm_op (f1 := false) (f2 := false) (opd_I0 (g' := fun i j => .int (Builtin.bitAnd i j)) fun _ _ => rfl) (sm_op (f1 := false) (f2 := false) (opd_I0 (g' := fun i j => .int (Builtin.bitOr i j)) fun _ _ => rfl) (sm_ix (f2 := false) (sm_var 3) (sm_int _)) (sm_ix (f2 := false) (sm_var 3) (sm_int _))) (sm_var 4)))))
 (sms_ret sm_non)
 sms_next)
 (sms_if (smt_t (f1 := false) (sm_op (f1 := false) (f2 := false) opd_ne (sm_op (f1 := false) (f2 := false) (opd_I0 (g' := fun i j => .int (Builtin.bitAnd i j)) fun _ _ => rfl) (sm_ix (f2 := false) (sm_var 2) (sm_int _)) (sm_var 4)) (sm_op (f1 := false) (f2 := false) (opd_I0 (g' := fun i j => .int (Builtin.bitAnd i j)) fun _ _ => rfl) (sm_ix (f2 := false) (sm_var 3) (sm_int _)) (sm_var 4))))
 (sms_ret (sm_if (smt_tru (f1 := false) (sm_op (f1 := false) (f2 := false) (opd_I0 (g' := fun i j => .int (Builtin.bitAnd i j)) fun _ _ => rfl) (sm_ix (f2 := false) (sm_var 2) (sm_int _)) (sm_var 4))) (sm_int _) (sm_int _)))
 sms_next)))
 sms_next)
 (sms_seq (sms_if (smt_t (f1 := false) (sm_op (f1 := false) (f2 := false) (opd_I0 (g' := fun i j => .bool (decide (i < j))) fun _ _ => rfl) (sm_ix (f2 := false) (sm_var 2) (sm_int _)) (sm_ix (f2 := false) (sm_var 3) (sm_int _))))
 (sms_ret (sm_int _))
 sms_next)
 (sms_seq (sms_if (smt_t (f1 := false) (sm_op (f1 := false) (f2 := false) (opd_I0 (g' := fun i j => .bool (decide (j ≤ i))) fun _ _ => rfl) (sm_ix (f2 := false) (sm_var 2) (sm_int _)) (sm_ix (f2 := false) (sm_var 3) (sm_int _))))
 (sms_ret (sm_int _))
 sms_next)
 (sms_ret sm_non)))), ?_⟩
  rintro rs Φ ⟨s, k, w, a, b, rfl, hk, h1, h2, h⟩
  have tail : (if a.h < b.l then Φ (.d (.int 1)) else if b.h ≤ a.l then Φ (.d (.int 0)) else Φ (.d .none)) ↔ Φ (.d (oD (if a.h < b.l then some true else if b.h ≤ a.l then some false else none))) := by
    by_cases c1 : a.h < b.l
    · simp [c1, oD]
    by_cases c2 : b.h ≤ a.l
    · simp [c1, c2, oD]
    · simp [c1, c2, oD]
  cases s
  · simp [rg]
    rw [tail]
    simpa [lessD] using h
  · simp [rg]
    refine ⟨k, w, rfl, hk, h1, h2, ?_⟩
    rw [lessD, unk, unk] at h
    generalize 2 ^ (w - 1) = hf at h ⊢
    simp [bA, bO]
    by_cases c1 : (a.z ||| a.o) &&& hf = 0
    · simpa [c1, oD] using h
    by_cases c2 : (b.z ||| b.o) &&& hf = 0
    · simpa [c1, c2, oD] using h
    simp only [if_neg c1, if_neg c2]
    by_cases c3 : a.o &&& hf = b.o &&& hf
    · refine .inl ⟨by rw [c3], ?_⟩
      rw [tail]
      simpa [c1, c2, c3] using h
    · refine .inr ⟨fun e => c3 (Int.ofNat_inj.mp e), ?_⟩
      have n1 : ¬ (true = true ∧ (decide ((a.z ||| a.o) &&& hf = 0) = true ∨ decide ((b.z ||| b.o) &&& hf = 0) = true)) := by simp [c1, c2]
      have n2 : true = true ∧ a.o &&& hf ≠ b.o &&& hf := ⟨rfl, c3⟩
      rw [if_neg n1, if_pos n2] at h
      by_cases c4 : a.o &&& hf = 0
      · simpa [c4, oD] using h
      · simpa [c4, oD] using h
def rank (p : Str) : Nat := if p = "eq" ∨ p = "ult" ∨ p = "slt" then 0 else if p = "ugt" ∨ p = "sgt" then 1 else 2
def vp_decide (n : Nat) : VSp := fun rs Φ => ∃ (p k : Str) (w : Nat) (a b : Rg), rs = [.d (.str p), .d (.str k), .d (rg a), .d (rg b)] ∧ p ∈ preds ∧ rank p < n ∧ (k, .int w) ∈ L__WIDTHS ∧ 1 ≤ w ∧ w ≤ 64 ∧ Φ (.d (oD (dec p w a b)))
theorem len_decide {n : Nat} : ∀ rs Φ, vp_decide n rs Φ → rs.length = 4 := fun rs Φ ⟨_, _, _, _, _, e, _⟩ => by rw [e]; rfl
theorem dec_ne (w : Nat) (a b : Rg) : dec "ne" w a b = (dec "eq" w a b).map not := by simp [dec]
theorem dec_ule (w : Nat) (a b : Rg) : dec "ule" w a b = (dec "ugt" w a b).map not := by simp [dec]
theorem dec_uge (w : Nat) (a b : Rg) : dec "uge" w a b = (dec "ult" w a b).map not := by simp [dec]
theorem dec_sle (w : Nat) (a b : Rg) : dec "sle" w a b = (dec "sgt" w a b).map not := by simp [dec]
theorem dec_sge (w : Nat) (a b : Rg) : dec "sge" w a b = (dec "slt" w a b).map not := by simp [dec]
theorem dec_ugt (w : Nat) (a b : Rg) : dec "ugt" w a b = dec "ult" w b a := by simp [dec]
theorem dec_sgt (w : Nat) (a b : Rg) : dec "sgt" w a b = dec "slt" w b a := by simp [dec]
theorem dec_at {n : Nat} (T : Txt K mg w) : FnOk P w K mg base CX0 (n + 6) T.f_decide T.fd_decide ["predicate", "kind", "a", "b"] (toSp K 4 (vp_decide n)) := by
  induction n with
  | zero => exact ⟨fun vs H Q E h => h.1, fun A outer s H args us vs Q E _ _ _ _ h => by
      obtain ⟨_, _, _, _, _, _, _, ⟨_, _, _, _, _, _, _, h, _⟩, _⟩ := h
      exact absurd h (Nat.not_lt_zero _)⟩
  | succ n ih =>
    refine fn_ok T.F_decide sc_decide fun cdv A outer s H E hr => ⟨_, (pss_cons (ps_if (pt_cmpR op_eq (pv 0) pe_str (nomark _)) (pss_one (ps_ret (pe_call (G__equal T) (hr.mono (by omega)) (by rfl) T.g__equal T.F__equal.kp T.b__equal .nil pass0 (pa_cons (pv 2) (pa_cons (pv 3) pa_nil))))) pss_nil)
 (pss_cons (ps_if (pt_cmpR (kx_in (K := K) rfl) (pv 0) (pe_tup (pa_cons pe_str (pa_cons pe_str pa_nil))) (by rfl)) (pss_one (ps_ret (pe_call (G__less T) (hr.mono (by omega)) (by rfl) T.g__less T.F__less.kp T.b__less .nil pass0 (pa_cons (pv 0) (pa_cons (pv 1) (pa_cons (pv 2) (pa_cons (pv 3) pa_nil))))))) pss_nil)
 (pss_cons (ps_if (pt_cmpR (kx_in (K := K) rfl) (pv 0) (pe_tup (pa_cons pe_str (pa_cons pe_str pa_nil))) (by rfl)) (pss_one (ps_ret (pe_call ih hr (by rfl) T.g_decide T.F_decide.kp T.b_decide .nil pass0 (pa_cons (pe_call (G_swapped T) (hr.mono (by omega)) (by rfl) T.g_swapped T.F_swapped.kp T.b_swapped .nil pass0 (pa_cons (pv 0) pa_nil)) (pa_cons (pv 1) (pa_cons (pv 3) (pa_cons (pv 2) pa_nil))))))) pss_nil)
 (pss_cons (ps_set (i := 4) sc_decide.nd rfl (Or.inl rfl) (pe_call ih hr (by rfl) T.g_decide T.F_decide.kp T.b_decide .nil pass0 (pa_cons (pe_call (G_opposite T) (hr.mono (by omega)) (by rfl) T.g_opposite T.F_opposite.kp T.b_opposite .nil pass0 (pa_cons (pv 0) pa_nil)) (pa_cons (pv 1) (pa_cons (pv 2) (pa_cons (pv 3) pa_nil))))))
 (pss_one (ps_ret (pe_ifExp (pt_cmpR op_isN (pv 4) pe_non (nomark _)) pe_non (pe_op op_sub pe_int (pv 4))))))))), _, fun ex He Hf => (sms_seq (sms_if (smt_t (f1 := false) (sm_op (f1 := false) (f2 := false) opd_eq (sm_var 0) (sm_str _)))
 (sms_ret (sm_call len__equal (smq_cons (sm_var 2) (smq_cons (sm_var 3) smq_nil))))
 sms_next)
 (sms_seq (sms_if (smt_t (f1 := false) (sm_op (f1 := false) (f2 := false) (opd_in false) (sm_var 0) (sm_tup (sma_cons (sm_str _) (sma_cons (sm_str _) sma_nil)))))
 (sms_ret (sm_call len__less (smq_cons (sm_var 0) (smq_cons (sm_var 1) (smq_cons (sm_var 2) (smq_cons (sm_var 3) smq_nil))))))
 sms_next)
 (sms_seq (sms_if (smt_t (f1 := false) (sm_op (f1 := false) (f2 := false) (opd_in false) (sm_var 0) (sm_tup (sma_cons (sm_str _) (sma_cons (sm_str _) sma_nil)))))
 (sms_ret (sm_call len_decide (smq_cons (sm_call len_swapped (smq_cons (sm_var 0) smq_nil)) (smq_cons (sm_var 1) (smq_cons (sm_var 3) (smq_cons (sm_var 2) smq_nil))))))
 sms_next)
 (sms_seq (sms_asg (sm_call len_decide (smq_cons (sm_call len_opposite (smq_cons (sm_var 0) smq_nil)) (smq_cons (sm_var 1) (smq_cons (sm_var 2) (smq_cons (sm_var 3) smq_nil))))) (smg_name 4))
 (sms_ret (sm_if (smt_t (f1 := false) (sm_op (f1 := false) (f2 := false) opd_isN (sm_var 4) sm_non)) sm_non (sm_op (f1 := false) (f2 := false) (opd_I0 (g' := fun i j => .int (i - j)) fun _ _ => rfl) (sm_int _) (sm_var 4)))))))), ?_⟩
    rintro rs Φ ⟨p, k, w, a, b, rfl, hp, hn, hk, h1, h2, h⟩
    have l2 : (2 : Nat) ≤ sizeLine := by decide
    rcases preds_cases hp with rfl | rfl | rfl | rfl | rfl | rfl | rfl | rfl | rfl | rfl
    all_goals simp [inD, l2]
    · exact ⟨a, b, rfl, by simpa [dec] using h⟩
    · rw [dec_ne] at h
      refine ⟨_, rfl, hp, "eq", k, w, a, b, by simp [oppS], by simp [preds], by simp [rank] at hn ⊢; omega, hk, h1, h2, ?_⟩
      generalize dec "eq" w a b = x at h ⊢
      cases x with
      | none => simpa [oD] using h
      | some c => cases c <;> simpa [oD] using h
    · exact ⟨false, k, w, a, b, rfl, hk, h1, h2, by simpa [dec] using h⟩
    · rw [dec_ule] at h
      refine ⟨_, rfl, hp, "ugt", k, w, a, b, by simp [oppS], by simp [preds], by simp [rank] at hn ⊢; omega, hk, h1, h2, ?_⟩
      generalize dec "ugt" w a b = x at h ⊢
      cases x with
      | none => simpa [oD] using h
      | some c => cases c <;> simpa [oD] using h
    · rw [dec_ugt] at h
      exact ⟨_, rfl, hp, "ult", k, w, b, a, by simp [swpS], by simp [preds], by simp [rank] at hn ⊢; omega, hk, h1, h2, h⟩
    · rw [dec_uge] at h
      refine ⟨_, rfl, hp, "ult", k, w, a, b, by simp [oppS], by simp [preds], by simp [rank] at hn ⊢; omega, hk, h1, h2, ?_⟩
      generalize dec "ult" w a b = x at h ⊢
      cases x with
      | none => simpa [oD] using h
      | some c => cases c <;> simpa [oD] using h
    · exact ⟨true, k, w, a, b, rfl, hk, h1, h2, by simpa [dec] using h⟩
    · rw [dec_sle] at h
      refine ⟨_, rfl, hp, "sgt", k, w, a, b, by simp [oppS], by simp [preds], by simp [rank] at hn ⊢; omega, hk, h1, h2, ?_⟩
      generalize dec "sgt" w a b = x at h ⊢
      cases x with
      | none => simpa [oD] using h
      | some c => cases c <;> simpa [oD] using h
    · rw [dec_sgt] at h
      exact ⟨_, rfl, hp, "slt", k, w, b, a, by simp [swpS], by simp [preds], by simp [rank] at hn ⊢; omega, hk, h1, h2, h⟩
    · rw [dec_sge] at h
      refine ⟨_, rfl, hp, "slt", k, w, a, b, by simp [oppS], by simp [preds], by simp [rank] at hn ⊢; omega, hk, h1, h2, ?_⟩
      generalize dec "slt" w a b = x at h ⊢
      cases x with
      | none => simpa [oD] using h
      | some c => cases c <;> simpa [oD] using h
theorem G_decide (T : Txt K mg w) : FnOk P w K mg base CX0 9 T.f_decide T.fd_decide ["predicate", "kind", "a", "b"] (toSp K 4 (vp_decide 3)) := dec_at T
theorem rank_lt (p : Str) : rank p < 3 := by
  unfold rank
  split
  · decide
  · split <;> decide

def vp__law_whole : VSp := fun rs Φ => ∃ i : Int, rs = [.d (.int i)] ∧ Φ (.d (.bool true))
theorem len__law_whole : ∀ rs Φ, vp__law_whole rs Φ → rs.length = 1 := fun rs Φ ⟨_, e, _⟩ => by rw [e]; rfl
theorem G__law_whole (T : Txt K mg w) : FnOk P w K mg base CX0 1 T.f__law_whole T.fd__law_whole ["value"] (toSp K 1 vp__law_whole) := by
  refine fn_ok T.F__law_whole sc__law_whole fun cdv A outer s H E hr => ⟨_, (pss_one (ps_ret (pe_and (pe_callB (kx_isi (K := K) rfl) (by rfl) T.isinstance (by decide +kernel) (pa_cons (pv 0) (pa_cons (pe_bltn (v := .ty "int") (by rfl) T.int (by decide +kernel) rfl) pa_nil))) (pe_one (pe_not (pe_callB (kx_isi (K := K) rfl) (by rfl) T.isinstance (by decide +kernel) (pa_cons (pv 0) (pa_cons (pe_bltn (v := .ty "bool") (by rfl) T.bool (by decide +kernel) rfl) pa_nil)))))))), _, fun ex He Hf => (sms_ret (sm_and (f1 := false) (sm_isi (f1 := false) "int" (sm_var 0)) (sm_not (f1 := false) (sm_isi (f1 := false) "bool" (sm_var 0))))), ?_⟩
  rintro rs Φ ⟨i, rfl, h⟩
  simpa [tyD] using h
theorem wid_cases {k : Str} {v : PyData} (h : (k, v) ∈ L__WIDTHS) : (k = "i1" ∧ v = .int 1) ∨ (k = "i8" ∧ v = .int 8) ∨ (k = "i16" ∧ v = .int 16) ∨ (k = "i32" ∧ v = .int 32) ∨ (k = "i64" ∧ v = .int 64) := by
  simpa [L__WIDTHS] using h
def vp__law_width : VSp := fun rs Φ => ∃ (k : Str) (v : PyData), rs = [.d (.str k)] ∧ (k, v) ∈ L__WIDTHS ∧ Φ (.d v)
theorem len__law_width : ∀ rs Φ, vp__law_width rs Φ → rs.length = 1 := fun rs Φ ⟨_, _, e, _⟩ => by rw [e]; rfl
theorem G__law_width (T : Txt K mg w) : FnOk P w K mg base CX0 1 T.f__law_width T.fd__law_width ["kind"] (toSp K 1 vp__law_width) := by
  refine fn_ok T.F__law_width sc__law_width fun cdv A outer s H E hr => ⟨_, (pss_cons (ps_for PassesOwn.never rfl ((kpi_list (K := K) rfl (pe_lst (pa_cons (pe_tup (pa_cons pe_str (pa_cons pe_int pa_nil))) (pa_cons (pe_tup (pa_cons pe_str (pa_cons pe_int pa_nil))) (pa_cons (pe_tup (pa_cons pe_str (pa_cons pe_int pa_nil))) (pa_cons (pe_tup (pa_cons pe_str (pa_cons pe_int pa_nil))) (pa_cons (pe_tup (pa_cons pe_str (pa_cons pe_int pa_nil))) pa_nil)))))))) (pg_name (i := 1) sc__law_width.nd rfl (Or.inl rfl)) (pss_one (ps_if (pt_cmpR op_eq (pe_ix (kx_seq (K := K) rfl) (pv 1) pe_int (fun _ _ => rfl)) (pv 0) (nomark _)) (pss_one (ps_ret (pe_ix (kx_seq (K := K) rfl) (pv 1) pe_int (fun _ _ => rfl)))) pss_nil)))
 (pss_one (ps_ret pe_int))), _, fun ex He Hf => (sms_seq (sms_for (smi_list (SmO.sm (smo_lst (sma_cons (sm_tup (sma_cons (sm_str _) (sma_cons (sm_int _) sma_nil))) (sma_cons (sm_tup (sma_cons (sm_str _) (sma_cons (sm_int _) sma_nil))) (sma_cons (sm_tup (sma_cons (sm_str _) (sma_cons (sm_int _) sma_nil))) (sma_cons (sm_tup (sma_cons (sm_str _) (sma_cons (sm_int _) sma_nil))) (sma_cons (sm_tup (sma_cons (sm_str _) (sma_cons (sm_int _) sma_nil))) sma_nil)))))))) (smg_name 1)
 (sms_if (smt_t (f1 := false) (sm_op (f1 := false) (f2 := false) opd_eq (sm_ix (f2 := false) (sm_var 1) (sm_int _)) (sm_var 0)))
 (sms_ret (sm_ix (f2 := false) (sm_var 1) (sm_int _)))
 sms_next))
 (sms_ret (sm_int _))), ?_⟩
  rintro rs Φ ⟨k, v, rfl, hk, h⟩
  have l2 : (2 : Nat) ≤ sizeLine := by decide
  have l5 : (5 : Nat) ≤ sizeLine := by decide
  rcases wid_cases hk with ⟨rfl, rfl⟩ | ⟨rfl, rfl⟩ | ⟨rfl, rfl⟩ | ⟨rfl, rfl⟩ | ⟨rfl, rfl⟩
  · simp [dFor, l2, l5]
    refine ⟨fun j δ => ∃ y, j ≤ 0 ∧ δ = [some (.d (.str "i1")), y], ⟨_, Nat.zero_le _, rfl⟩, fun j z δ hj hI => ?_, fun δ hI => ?_⟩
    · obtain ⟨y, hy, rfl⟩ := hI
      rcases (show j = 0 by omega) with rfl
      · have e := Option.some.inj hj
        subst e
        simp
        exact h
    · obtain ⟨y, hy, rfl⟩ := hI
      exact absurd hy (by simp)
  · simp [dFor, l2, l5]
    refine ⟨fun j δ => ∃ y, j ≤ 1 ∧ δ = [some (.d (.str "i8")), y], ⟨_, Nat.zero_le _, rfl⟩, fun j z δ hj hI => ?_, fun δ hI => ?_⟩
    · obtain ⟨y, hy, rfl⟩ := hI
      rcases (show j = 0 ∨ j = 1 by omega) with rfl | rfl
      · have e := Option.some.inj hj
        subst e
        simp
      · have e := Option.some.inj hj
        subst e
        simp
        exact h
    · obtain ⟨y, hy, rfl⟩ := hI
      exact absurd hy (by simp)
  · simp [dFor, l2, l5]
    refine ⟨fun j δ => ∃ y, j ≤ 2 ∧ δ = [some (.d (.str "i16")), y], ⟨_, Nat.zero_le _, rfl⟩, fun j z δ hj hI => ?_, fun δ hI => ?_⟩
    · obtain ⟨y, hy, rfl⟩ := hI
      rcases (show j = 0 ∨ j = 1 ∨ j = 2 by omega) with rfl | rfl | rfl
      · have e := Option.some.inj hj
        subst e
        simp
      · have e := Option.some.inj hj
        subst e
        simp
      · have e := Option.some.inj hj
        subst e
        simp
        exact h
    · obtain ⟨y, hy, rfl⟩ := hI
      exact absurd hy (by simp)
  · simp [dFor, l2, l5]
    refine ⟨fun j δ => ∃ y, j ≤ 3 ∧ δ = [some (.d (.str "i32")), y], ⟨_, Nat.zero_le _, rfl⟩, fun j z δ hj hI => ?_, fun δ hI => ?_⟩
    · obtain ⟨y, hy, rfl⟩ := hI
      rcases (show j = 0 ∨ j = 1 ∨ j = 2 ∨ j = 3 by omega) with rfl | rfl | rfl | rfl
      · have e := Option.some.inj hj
        subst e
        simp
      · have e := Option.some.inj hj
        subst e
        simp
      · have e := Option.some.inj hj
        subst e
        simp
      · have e := Option.some.inj hj
        subst e
        simp
        exact h
    · obtain ⟨y, hy, rfl⟩ := hI
      exact absurd hy (by simp)
  · simp [dFor, l2, l5]
    refine ⟨fun j δ => ∃ y, j ≤ 4 ∧ δ = [some (.d (.str "i64")), y], ⟨_, Nat.zero_le _, rfl⟩, fun j z δ hj hI => ?_, fun δ hI => ?_⟩
    · obtain ⟨y, hy, rfl⟩ := hI
      rcases (show j = 0 ∨ j = 1 ∨ j = 2 ∨ j = 3 ∨ j = 4 by omega) with rfl | rfl | rfl | rfl | rfl
      · have e := Option.some.inj hj
        subst e
        simp
      · have e := Option.some.inj hj
        subst e
        simp
      · have e := Option.some.inj hj
        subst e
        simp
      · have e := Option.some.inj hj
        subst e
        simp
      · have e := Option.some.inj hj
        subst e
        simp
        exact h
    · obtain ⟨y, hy, rfl⟩ := hI
      exact absurd hy (by simp)
def vp__law_number : VSp := fun rs Φ => ∃ w : Nat, rs = [.drw, .d (.int w)] ∧ 1 ≤ w ∧ w ≤ 64 ∧ ∀ n : Nat, n < 2 ^ w → Φ (.d (.int n))
theorem len__law_number : ∀ rs Φ, vp__law_number rs Φ → rs.length = 2 := fun rs Φ ⟨_, e, _⟩ => by rw [e]; rfl
theorem G__law_number (T : Txt K mg w) : FnOk P w K mg base CX0 2 T.f__law_number T.fd__law_number ["draw", "w"] (toSp K 2 vp__law_number) := by
  refine fn_ok T.F__law_number sc__law_number fun cdv A outer s H E hr => ⟨_, (pss_cons (ps_set (i := 2) sc__law_number.nd rfl (Or.inl rfl) (pe_op op_sub (pe_op op_shl pe_int (pv 1)) pe_int))
 (pss_cons (ps_set (i := 3) sc__law_number.nd rfl (Or.inl rfl) (pe_call (G__law_take T) hr (by rfl) T.g__law_take T.F__law_take.kp T.b__law_take .nil pass0 (pa_cons (pv 0) (pa_cons pe_int pa_nil))))
 (pss_cons (ps_if (pt_cmpR op_lt (pv 3) pe_int (nomark _)) (pss_one (ps_ret (pe_callB (call_min2 rfl) (by rfl) T.min (by decide +kernel) (pa_cons (pv 2) (pa_cons (pe_call (G__law_take T) hr (by rfl) T.g__law_take T.F__law_take.kp T.b__law_take .nil pass0 (pa_cons (pv 0) (pa_cons pe_int pa_nil))) pa_nil))))) pss_nil)
 (pss_cons (ps_if (pt_cmpR op_eq (pv 3) pe_int (nomark _)) (pss_one (ps_ret (pe_op op_sub (pv 2) (pe_callB (call_min2 rfl) (by rfl) T.min (by decide +kernel) (pa_cons (pv 2) (pa_cons (pe_call (G__law_take T) hr (by rfl) T.g__law_take T.F__law_take.kp T.b__law_take .nil pass0 (pa_cons (pv 0) (pa_cons pe_int pa_nil))) pa_nil)))))) pss_nil)
 (pss_cons (ps_if (pt_cmpR op_eq (pv 3) pe_int (nomark _)) (pss_one (ps_ret (pe_op op_and (pe_callTy call_int1 (by rfl) T.int (by decide +kernel) (pa_cons (pe_op op_sub (pe_op op_add (pe_op op_shl pe_int (pe_call (G__law_take T) hr (by rfl) T.g__law_take T.F__law_take.kp T.b__law_take .nil pass0 (pa_cons (pv 0) (pa_cons (pv 1) pa_nil)))) (pe_call (G__law_take T) hr (by rfl) T.g__law_take T.F__law_take.kp T.b__law_take .nil pass0 (pa_cons (pv 0) (pa_cons pe_int pa_nil)))) pe_int) pa_nil)) (pv 2)))) pss_nil)
 (pss_cons (ps_if (pt_cmpR op_eq (pv 3) pe_int (nomark _)) (pss_one (ps_ret (pe_op op_shl pe_int (pe_op op_sub (pv 1) pe_int)))) pss_nil)
 (pss_cons (ps_set (i := 4) sc__law_number.nd rfl (Or.inl rfl) pe_int)
 (pss_cons (ps_for PassesOwn.never rfl (pi_range1 rfl T.range (pa_cons pe_int pa_nil)) (pg_name (i := 5) sc__law_number.nd rfl (Or.inl rfl)) (pss_one (ps_set (i := 4) sc__law_number.nd rfl (Or.inl rfl) (pe_op op_add (pe_op op_mul (pv 4) pe_int) (pe_call (G__law_take T) hr (by rfl) T.g__law_take T.F__law_take.kp T.b__law_take .nil pass0 (pa_cons (pv 0) (pa_cons pe_int pa_nil)))))))
 (pss_one (ps_ret (pe_op op_and (pv 4) (pv 2)))))))))))), _, fun ex He Hf => (sms_seq (sms_asg (sm_op (f1 := false) (f2 := false) (opd_I0 (g' := fun i j => .int (i - j)) fun _ _ => rfl) (sm_op (f1 := false) (f2 := false) (opd_I (g' := fun i j => .int (i * 2 ^ j.toNat)) fun _ _ => rfl) (sm_int _) (sm_var 1)) (sm_int _)) (smg_name 2))
 (sms_seq (sms_asg (sm_call len__law_take (smq_drw 0 (smq_cons (sm_int _) smq_nil))) (smg_name 3))
 (sms_seq (sms_if (smt_t (f1 := false) (sm_op (f1 := false) (f2 := false) (opd_I0 (g' := fun i j => .bool (decide (i < j))) fun _ _ => rfl) (sm_var 3) (sm_int _)))
 (sms_ret (sm_cb (f1 := false) cbd_min (sma_cons (sm_var 2) (sma_cons (sm_call len__law_take (smq_drw 0 (smq_cons (sm_int _) smq_nil))) sma_nil))))
 sms_next)
 (sms_seq (sms_if (smt_t (f1 := false) (sm_op (f1 := false) (f2 := false) opd_eq (sm_var 3) (sm_int _)))
 (sms_ret (sm_op (f1 := false) (f2 := false) (opd_I0 (g' := fun i j => .int (i - j)) fun _ _ => rfl) (sm_var 2) (sm_cb (f1 := false) cbd_min (sma_cons (sm_var 2) (sma_cons (sm_call len__law_take (smq_drw 0 (smq_cons (sm_int _) smq_nil))) sma_nil)))))
 sms_next)
 (sms_seq (sms_if (smt_t (f1 := false) (sm_op (f1 := false) (f2 := false) opd_eq (sm_var 3) (sm_int _)))
 (sms_ret (sm_op (f1 := false) (f2 := false) (opd_I0 (g' := fun i j => .int (Builtin.bitAnd i j)) fun _ _ => rfl) (sm_cb (f1 := false) cbd_int (sma_cons (sm_op (f1 := false) (f2 := false) (opd_I0 (g' := fun i j => .int (i - j)) fun _ _ => rfl) (sm_op (f1 := false) (f2 := false) (opd_I0 (g' := fun i j => .int (i + j)) fun _ _ => rfl) (sm_op (f1 := false) (f2 := false) (opd_I (g' := fun i j => .int (i * 2 ^ j.toNat)) fun _ _ => rfl) (sm_int _) (sm_call len__law_take (smq_drw 0 (smq_cons (sm_var 1) smq_nil)))) (sm_call len__law_take (smq_drw 0 (smq_cons (sm_int _) smq_nil)))) (sm_int _)) sma_nil)) (sm_var 2)))
 sms_next)
 (sms_seq (sms_if (smt_t (f1 := false) (sm_op (f1 := false) (f2 := false) opd_eq (sm_var 3) (sm_int _)))
 (sms_ret (sm_op (f1 := false) (f2 := false) (opd_I (g' := fun i j => .int (i * 2 ^ j.toNat)) fun _ _ => rfl) (sm_int _) (sm_op (f1 := false) (f2 := false) (opd_I0 (g' := fun i j => .int (i - j)) fun _ _ => rfl) (sm_var 1) (sm_int _))))
 sms_next)
 (sms_seq (sms_asg (sm_int _) (smg_name 4))
 (sms_seq (sms_for (smi_rng1 (f1 := false) (sm_int _)) (smg_name 5)
 (sms_asg (sm_op (f1 := false) (f2 := false) (opd_I0 (g' := fun i j => .int (i + j)) fun _ _ => rfl) (sm_op (f1 := false) (f2 := false) (opd_I (g' := fun i j => .int (i * j)) fun _ _ => rfl) (sm_var 4) (sm_int _)) (sm_call len__law_take (smq_drw 0 (smq_cons (sm_int _) smq_nil)))) (smg_name 4)))
 (sms_ret (sm_op (f1 := false) (f2 := false) (opd_I0 (g' := fun i j => .int (Builtin.bitAnd i j)) fun _ _ => rfl) (sm_var 4) (sm_var 2))))))))))), ?_⟩
  rintro rs Φ ⟨w, rfl, h1, h2, h⟩
  have p64 := pow_le64 h2
  have p0 := pow_pos2 w
  have ph := pow_half h1
  have p1 := pow_pos2 (w - 1)
  have hI : ∀ x : Int, 0 ≤ x → x < 2 ^ w → Φ (.d (.int x)) := fun x a b => by
    obtain ⟨n, rfl⟩ := Int.eq_ofNat_of_zero_le a
    refine h n ?_
    rw [← PySem.W.kbt_cast] at b
    exact Int.ofNat_lt.mp b
  simp
  refine ⟨cp1 (by omega) (by omega), fun k _ _ => ?_⟩
  split
  · exact fun r r0 r1 => hI _ (by split <;> omega) (by split <;> omega)
  split
  · exact fun r r0 r1 => hI _ (by split <;> omega) (by split <;> omega)
  split
  · refine ⟨⟨by omega, by omega⟩, fun r r0 r1 => ⟨cp1 (by omega) (by omega), fun q q0 q1 => ?_⟩⟩
    rw [PySem.W.kbt_mask]
    exact hI _ (Int.emod_nonneg _ (by omega)) (Int.emod_lt_of_pos _ p0)
  split
  · have e1 : ((w : Int) - 1).toNat = w - 1 := by omega
    exact ⟨cp1 (by omega) (by omega), hI _ (by omega) (by omega)⟩
  simp only [dFor, iR1, dC]
  refine ⟨3, rfl, by decide, by decide, fun j δ => ∃ (f : Int) (y5 : Option R), 0 ≤ f ∧ f < 4194301 ^ j ∧ δ = [some .drw, some (.d (.int w)), some (.d (.int (2 ^ w - 1))), some (.d (.int k)), some (.d (.int f)), y5], ⟨0, none, by decide, by decide, rfl⟩, fun j z δ hj hI2 => ?_, fun δ hI2 => ?_⟩
  · obtain ⟨f, y5, f0, f1, rfl⟩ := hI2
    obtain ⟨hj', rfl⟩ := rng_get hj
    have hj3 : j < 3 := hj'
    have fb : f < 20000000000000 := by
      rcases (show j = 0 ∨ j = 1 ∨ j = 2 by omega) with rfl | rfl | rfl <;> simp at f1 <;> omega
    simp
    refine ⟨.inl ⟨by omega, by omega⟩, fun r r0 r1 => ⟨by omega, ?_⟩⟩
    rw [Int.pow_succ]
    generalize (4194301 : Int) ^ j = q at *
    omega
  · obtain ⟨f, y5, f0, f1, rfl⟩ := hI2
    simp
    rw [PySem.W.kbt_mask]
    exact hI _ (Int.emod_nonneg _ (by omega)) (Int.emod_lt_of_pos _ p0)

def vp__law_signed : VSp := fun rs Φ => ∃ (w : Nat) (x : Int), rs = [.d (.int w), .d (.int x)] ∧ 1 ≤ w ∧ w ≤ 64 ∧ Φ (.d (.int (sgn w x)))
theorem len__law_signed : ∀ rs Φ, vp__law_signed rs Φ → rs.length = 2 := fun rs Φ ⟨_, _, e, _⟩ => by rw [e]; rfl
theorem G__law_signed (T : Txt K mg w) : FnOk P w K mg base CX0 1 T.f__law_signed T.fd__law_signed ["w", "x"] (toSp K 2 vp__law_signed) := by
  refine fn_ok T.F__law_signed sc__law_signed fun cdv A outer s H E hr => ⟨_, (pss_cons (ps_if (pt_cmpR op_ge (pv 1) (pe_op op_shl pe_int (pe_op op_sub (pv 0) pe_int)) (nomark _)) (pss_one (ps_ret (pe_op op_sub (pv 1) (pe_op op_shl pe_int (pv 0))))) pss_nil)
 (pss_one (ps_ret (pv 1)))), _, fun ex He Hf => (sms_seq (sms_if (smt_t (f1 := false) (sm_op (f1 := false) (f2 := false) (opd_I0 (g' := fun i j => .bool (decide (j ≤ i))) fun _ _ => rfl) (sm_var 1) (sm_op (f1 := false) (f2 := false) (opd_I (g' := fun i j => .int (i * 2 ^ j.toNat)) fun _ _ => rfl) (sm_int _) (sm_op (f1 := false) (f2 := false) (opd_I0 (g' := fun i j => .int (i - j)) fun _ _ => rfl) (sm_var 0) (sm_int _)))))
 (sms_ret (sm_op (f1 := false) (f2 := false) (opd_I0 (g' := fun i j => .int (i - j)) fun _ _ => rfl) (sm_var 1) (sm_op (f1 := false) (f2 := false) (opd_I (g' := fun i j => .int (i * 2 ^ j.toNat)) fun _ _ => rfl) (sm_int _) (sm_var 0))))
 sms_next)
 (sms_ret (sm_var 1))), ?_⟩
  rintro rs Φ ⟨w, x, rfl, h1, h2, h⟩
  have e1 : ((w : Int) - 1).toNat = w - 1 := by omega
  simp [e1]
  refine ⟨cp1 (by omega) (by omega), ?_⟩
  unfold sgn at h
  split
  · rename_i hc
    rw [if_pos hc] at h
    exact ⟨cp1 (by omega) (by omega), h⟩
  · rename_i hc
    rw [if_neg hc] at h
    exact h
theorem nos_e : ¬ (⟨#[101]⟩ : Str) = Str.ofString "s" := by decide +kernel
theorem nos_n : ¬ (⟨#[110]⟩ : Str) = Str.ofString "s" := by decide +kernel
theorem nos_u : ¬ (⟨#[117]⟩ : Str) = Str.ofString "s" := by decide +kernel
theorem yes_s : (⟨#[115]⟩ : Str) = Str.ofString "s" := rfl
theorem pl_eq : (Str.ofString "eq").length ≤ sizeLine := by decide
theorem pc_eq : (Str.ofString "eq").cps.toList = [101, 113] := rfl
theorem pw_eq : cutS (Str.ofString "eq") (some (((Str.ofString "eq").length : Int) - 2)) none = Str.ofString "eq" := by decide +kernel
theorem p1_eq : cutS (Str.ofString "eq") (some 1) none = Str.ofString "q" := by decide +kernel
theorem pl_ne : (Str.ofString "ne").length ≤ sizeLine := by decide
theorem pc_ne : (Str.ofString "ne").cps.toList = [110, 101] := rfl
theorem pw_ne : cutS (Str.ofString "ne") (some (((Str.ofString "ne").length : Int) - 2)) none = Str.ofString "ne" := by decide +kernel
theorem p1_ne : cutS (Str.ofString "ne") (some 1) none = Str.ofString "e" := by decide +kernel
theorem pl_ult : (Str.ofString "ult").length ≤ sizeLine := by decide
theorem pc_ult : (Str.ofString "ult").cps.toList = [117, 108, 116] := rfl
theorem pw_ult : cutS (Str.ofString "ult") (some (((Str.ofString "ult").length : Int) - 2)) none = Str.ofString "lt" := by decide +kernel
theorem p1_ult : cutS (Str.ofString "ult") (some 1) none = Str.ofString "lt" := by decide +kernel
theorem pl_ule : (Str.ofString "ule").length ≤ sizeLine := by decide
theorem pc_ule : (Str.ofString "ule").cps.toList = [117, 108, 101] := rfl
theorem pw_ule : cutS (Str.ofString "ule") (some (((Str.ofString "ule").length : Int) - 2)) none = Str.ofString "le" := by decide +kernel
theorem p1_ule : cutS (Str.ofString "ule") (some 1) none = Str.ofString "le" := by decide +kernel
theorem pl_ugt : (Str.ofString "ugt").length ≤ sizeLine := by decide
theorem pc_ugt : (Str.ofString "ugt").cps.toList = [117, 103, 116] := rfl
theorem pw_ugt : cutS (Str.ofString "ugt") (some (((Str.ofString "ugt").length : Int) - 2)) none = Str.ofString "gt" := by decide +kernel
theorem p1_ugt : cutS (Str.ofString "ugt") (some 1) none = Str.ofString "gt" := by decide +kernel
theorem pl_uge : (Str.ofString "uge").length ≤ sizeLine := by decide
theorem pc_uge : (Str.ofString "uge").cps.toList = [117, 103, 101] := rfl
theorem pw_uge : cutS (Str.ofString "uge") (some (((Str.ofString "uge").length : Int) - 2)) none = Str.ofString "ge" := by decide +kernel
theorem p1_uge : cutS (Str.ofString "uge") (some 1) none = Str.ofString "ge" := by decide +kernel
theorem pl_slt : (Str.ofString "slt").length ≤ sizeLine := by decide
theorem pc_slt : (Str.ofString "slt").cps.toList = [115, 108, 116] := rfl
theorem pw_slt : cutS (Str.ofString "slt") (some (((Str.ofString "slt").length : Int) - 2)) none = Str.ofString "lt" := by decide +kernel
theorem p1_slt : cutS (Str.ofString "slt") (some 1) none = Str.ofString "lt" := by decide +kernel
theorem pl_sle : (Str.ofString "sle").length ≤ sizeLine := by decide
theorem pc_sle : (Str.ofString "sle").cps.toList = [115, 108, 101] := rfl
theorem pw_sle : cutS (Str.ofString "sle") (some (((Str.ofString "sle").length : Int) - 2)) none = Str.ofString "le" := by decide +kernel
theorem p1_sle : cutS (Str.ofString "sle") (some 1) none = Str.ofString "le" := by decide +kernel
theorem pl_sgt : (Str.ofString "sgt").length ≤ sizeLine := by decide
theorem pc_sgt : (Str.ofString "sgt").cps.toList = [115, 103, 116] := rfl
theorem pw_sgt : cutS (Str.ofString "sgt") (some (((Str.ofString "sgt").length : Int) - 2)) none = Str.ofString "gt" := by decide +kernel
theorem p1_sgt : cutS (Str.ofString "sgt") (some 1) none = Str.ofString "gt" := by decide +kernel
theorem pl_sge : (Str.ofString "sge").length ≤ sizeLine := by decide
theorem pc_sge : (Str.ofString "sge").cps.toList = [115, 103, 101] := rfl
theorem pw_sge : cutS (Str.ofString "sge") (some (((Str.ofString "sge").length : Int) - 2)) none = Str.ofString "ge" := by decide +kernel
theorem p1_sge : cutS (Str.ofString "sge") (some 1) none = Str.ofString "ge" := by decide +kernel
def vp__law_compare : VSp := fun rs Φ => ∃ (p : Str) (w : Nat) (x y : Int), rs = [.d (.str p), .d (.int w), .d (.int x), .d (.int y)] ∧ p ∈ preds ∧ 1 ≤ w ∧ w ≤ 64 ∧ Φ (.d (.int (b2i (cmpI p w x y))))
theorem len__law_compare : ∀ rs Φ, vp__law_compare rs Φ → rs.length = 4 := fun rs Φ ⟨_, _, _, _, e, _⟩ => by rw [e]; rfl
theorem G__law_compare (T : Txt K mg w) : FnOk P w K mg base CX0 2 T.f__law_compare T.fd__law_compare ["predicate", "w", "x", "y"] (toSp K 4 vp__law_compare) := by
  refine fn_ok T.F__law_compare sc__law_compare fun cdv A outer s H E hr => ⟨_, (pss_cons (ps_if (pt_cmpR op_eq (pe_ix (kx_seq (K := K) rfl) (pv 0) pe_int (fun _ _ => rfl)) pe_str (nomark _)) (pss_cons (ps_set (i := 2) sc__law_compare.nd rfl (Or.inl rfl) (pe_call (G__law_signed T) hr (by rfl) T.g__law_signed T.F__law_signed.kp T.b__law_signed .nil pass0 (pa_cons (pv 1) (pa_cons (pv 2) pa_nil))))
 (pss_one (ps_set (i := 3) sc__law_compare.nd rfl (Or.inl rfl) (pe_call (G__law_signed T) hr (by rfl) T.g__law_signed T.F__law_signed.kp T.b__law_signed .nil pass0 (pa_cons (pv 1) (pa_cons (pv 3) pa_nil)))))) pss_nil)
 (pss_cons (ps_set (i := 4) sc__law_compare.nd rfl (Or.inl rfl) (pe_slice sl_str (pv 0) (po_some (pe_op op_sub (pe_callB (kx_len (K := K) rfl) (by rfl) T.len PySem.boot_len (pa_cons (pv 0) pa_nil)) pe_int)) po_none))
 (pss_cons (ps_if (pt_cmpR op_eq (pv 4) pe_str (nomark _)) (pss_one (ps_ret (pe_callTy call_int1 (by rfl) T.int (by decide +kernel) (pa_cons (pe_cmpR op_eq (pv 2) (pv 3) (nomark _)) pa_nil)))) pss_nil)
 (pss_cons (ps_if (pt_cmpR op_eq (pv 4) pe_str (nomark _)) (pss_one (ps_ret (pe_callTy call_int1 (by rfl) T.int (by decide +kernel) (pa_cons (pe_cmpR op_ne (pv 2) (pv 3) (nomark _)) pa_nil)))) pss_nil)
 (pss_cons (ps_if (pt_cmpR op_eq (pv 4) pe_str (nomark _)) (pss_one (ps_ret (pe_callTy call_int1 (by rfl) T.int (by decide +kernel) (pa_cons (pe_cmpR op_lt (pv 2) (pv 3) (nomark _)) pa_nil)))) pss_nil)
 (pss_cons (ps_if (pt_cmpR op_eq (pv 4) pe_str (nomark _)) (pss_one (ps_ret (pe_callTy call_int1 (by rfl) T.int (by decide +kernel) (pa_cons (pe_cmpR op_le (pv 2) (pv 3) (nomark _)) pa_nil)))) pss_nil)
 (pss_cons (ps_if (pt_cmpR op_eq (pv 4) pe_str (nomark _)) (pss_one (ps_ret (pe_callTy call_int1 (by rfl) T.int (by decide +kernel) (pa_cons (pe_cmpR op_gt (pv 2) (pv 3) (nomark _)) pa_nil)))) pss_nil)
 (pss_one (ps_ret (pe_callTy call_int1 (by rfl) T.int (by decide +kernel) (pa_cons (pe_cmpR op_ge (pv 2) (pv 3) (nomark _)) pa_nil))))))))))), _, fun ex He Hf => (sms_seq (sms_if (smt_t (f1 := false) (sm_op (f1 := false) (f2 := false) opd_eq (sm_ix (f2 := false) (sm_var 0) (sm_int _)) (sm_str _)))
 (sms_seq (sms_asg (sm_call len__law_signed (smq_cons (sm_var 1) (smq_cons (sm_var 2) smq_nil))) (smg_name 2))
 (sms_asg (sm_call len__law_signed (smq_cons (sm_var 1) (smq_cons (sm_var 3) smq_nil))) (smg_name 3)))
 sms_next)
 (sms_seq (sms_asg (sm_sl_str (f1 := false) (sm_var 0) (smp_some (f1 := false) (sm_op (f1 := false) (f2 := false) (opd_I0 (g' := fun i j => .int (i - j)) fun _ _ => rfl) (sm_cb (f1 := false) cbd_len (sma_cons (sm_var 0) sma_nil)) (sm_int _))) smp_none) (smg_name 4))
 (sms_seq (sms_if (smt_t (f1 := false) (sm_op (f1 := false) (f2 := false) opd_eq (sm_var 4) (sm_str _)))
 (sms_ret (sm_cb (f1 := false) cbd_int (sma_cons (sm_op (f1 := false) (f2 := false) opd_eq (sm_var 2) (sm_var 3)) sma_nil)))
 sms_next)
 (sms_seq (sms_if (smt_t (f1 := false) (sm_op (f1 := false) (f2 := false) opd_eq (sm_var 4) (sm_str _)))
 (sms_ret (sm_cb (f1 := false) cbd_int (sma_cons (sm_op (f1 := false) (f2 := false) opd_ne (sm_var 2) (sm_var 3)) sma_nil)))
 sms_next)
 (sms_seq (sms_if (smt_t (f1 := false) (sm_op (f1 := false) (f2 := false) opd_eq (sm_var 4) (sm_str _)))
 (sms_ret (sm_cb (f1 := false) cbd_int (sma_cons (sm_op (f1 := false) (f2 := false) (opd_I0 (g' := fun i j => .bool (decide (i < j))) fun _ _ => rfl) (sm_var 2) (sm_var 3)) sma_nil)))
 sms_next)
 (sms_seq (sms_if (smt_t (f1 := false) (sm_op (f1 := false) (f2 := false) opd_eq (sm_var 4) (sm_str _)))
 (sms_ret (sm_cb (f1 := false) cbd_int (sma_cons (sm_op (f1 := false) (f2 := false) (opd_I0 (g' := fun i j => .bool (decide (i ≤ j))) fun _ _ => rfl) (sm_var 2) (sm_var 3)) sma_nil)))
 sms_next)
 (sms_seq (sms_if (smt_t (f1 := false) (sm_op (f1 := false) (f2 := false) opd_eq (sm_var 4) (sm_str _)))
 (sms_ret (sm_cb (f1 := false) cbd_int (sma_cons (sm_op (f1 := false) (f2 := false) (opd_I0 (g' := fun i j => .bool (decide (j < i))) fun _ _ => rfl) (sm_var 2) (sm_var 3)) sma_nil)))
 sms_next)
 (sms_ret (sm_cb (f1 := false) cbd_int (sma_cons (sm_op (f1 := false) (f2 := false) (opd_I0 (g' := fun i j => .bool (decide (j ≤ i))) fun _ _ => rfl) (sm_var 2) (sm_var 3)) sma_nil)))))))))), ?_⟩
  rintro rs Φ ⟨p, w, x, y, rfl, hp, h1, h2, h⟩
  rcases preds_cases hp with rfl | rfl | rfl | rfl | rfl | rfl | rfl | rfl | rfl | rfl
  · simp [pl_eq, pc_eq, pw_eq, nos_e]
    simpa [cmpI, b2i] using h
  · simp [pl_ne, pc_ne, pw_ne, nos_n]
    simpa [cmpI, b2i] using h
  · simp [pl_ult, pc_ult, pw_ult, nos_u]
    simpa [cmpI, b2i] using h
  · simp [pl_ule, pc_ule, pw_ule, nos_u]
    simpa [cmpI, b2i] using h
  · simp [pl_ugt, pc_ugt, pw_ugt, nos_u]
    simpa [cmpI, b2i] using h
  · simp [pl_uge, pc_uge, pw_uge, nos_u]
    simpa [cmpI, b2i] using h
  · simp [pl_slt, pc_slt, pw_slt, yes_s]
    refine ⟨w, x, rfl, h1, h2, w, y, rfl, h1, h2, ?_⟩
    simp [pl_slt, pc_slt, pw_slt, yes_s]
    simpa [cmpI, b2i] using h
  · simp [pl_sle, pc_sle, pw_sle, yes_s]
    refine ⟨w, x, rfl, h1, h2, w, y, rfl, h1, h2, ?_⟩
    simp [pl_sle, pc_sle, pw_sle, yes_s]
    simpa [cmpI, b2i] using h
  · simp [pl_sgt, pc_sgt, pw_sgt, yes_s]
    refine ⟨w, x, rfl, h1, h2, w, y, rfl, h1, h2, ?_⟩
    simp [pl_sgt, pc_sgt, pw_sgt, yes_s]
    simpa [cmpI, b2i] using h
  · simp [pl_sge, pc_sge, pw_sge, yes_s]
    refine ⟨w, x, rfl, h1, h2, w, y, rfl, h1, h2, ?_⟩
    simp [pl_sge, pc_sge, pw_sge, yes_s]
    simpa [cmpI, b2i] using h


def Mem (v : Nat) (a : Rg) : Prop := a.l ≤ v ∧ v ≤ a.h ∧ v &&& a.z = 0 ∧ v &&& a.o = a.o
def nl (vs : List Nat) : List PyData := (vs.map fun n : Nat => (n : Int)).map PyData.int
theorem and_comp {w v : Nat} (h : v < 2 ^ w) : v &&& (2 ^ w - 1 - v) = 0 := by
  refine Nat.eq_of_testBit_eq fun i => ?_
  rw [show 2 ^ w - 1 - v = 2 ^ w - (v + 1) by omega, Nat.testBit_and, Nat.testBit_two_pow_sub_succ h, Nat.zero_testBit]
  cases v.testBit i <;> simp
theorem and_z {v z y : Nat} (h : v &&& z = 0) : v &&& (z &&& y) = 0 := by
  rw [← Nat.and_assoc, h, Nat.zero_and]
theorem and_o {v o y : Nat} (h : v &&& o = o) : v &&& (o &&& y) = o &&& y := by
  rw [← Nat.and_assoc, h]
def vp__law_tight : VSp := fun rs Φ => ∃ (vs : List Nat) (w : Nat), rs = [.d (.list (nl vs)), .d (.int w)] ∧ 0 < vs.length ∧ (∀ v ∈ vs, v < 2 ^ w) ∧ w ≤ 64 ∧ ∀ r : Rg, (∀ v ∈ vs, Mem v r) → r.h < 2 ^ w → Φ (.d (rg r))
theorem len__law_tight : ∀ rs Φ, vp__law_tight rs Φ → rs.length = 2 := fun rs Φ ⟨_, _, e, _⟩ => by rw [e]; rfl
theorem G__law_tight (T : Txt K mg w) : FnOk P w K mg base CX0 1 T.f__law_tight T.fd__law_tight ["values", "w"] (toSp K 2 vp__law_tight) := by
  refine fn_ok T.F__law_tight sc__law_tight fun cdv A outer s H E hr => ⟨_, (pss_cons (ps_set (i := 2) sc__law_tight.nd rfl (Or.inl rfl) (pe_op op_sub (pe_op op_shl pe_int (pv 1)) pe_int))
 (pss_cons (ps_set (i := 3) sc__law_tight.nd rfl (Or.inl rfl) (pv 2))
 (pss_cons (ps_set (i := 4) sc__law_tight.nd rfl (Or.inl rfl) (pv 2))
 (pss_cons (ps_for PassesOwn.never rfl ((kpi_list (K := K) rfl (pv 0))) (pg_name (i := 5) sc__law_tight.nd rfl (Or.inl rfl)) (pss_cons (ps_set (i := 3) sc__law_tight.nd rfl (Or.inl rfl) (pe_op op_and (pv 3) (pe_op op_sub (pv 2) (pv 5))))
 (pss_one (ps_set (i := 4) sc__law_tight.nd rfl (Or.inl rfl) (pe_op op_and (pv 4) (pv 5))))))
 (pss_one (ps_ret (pe_tup (pa_cons (pe_callB (cr_min rfl) (by rfl) T.min (by decide +kernel) (pa_cons (pv 0) pa_nil)) (pa_cons (pe_callB (cr_max rfl) (by rfl) T.max (by decide +kernel) (pa_cons (pv 0) pa_nil)) (pa_cons (pv 3) (pa_cons (pv 4) pa_nil))))))))))), _, fun ex He Hf => (sms_seq (sms_asg (sm_op (f1 := false) (f2 := false) (opd_I0 (g' := fun i j => .int (i - j)) fun _ _ => rfl) (sm_op (f1 := false) (f2 := false) (opd_I (g' := fun i j => .int (i * 2 ^ j.toNat)) fun _ _ => rfl) (sm_int _) (sm_var 1)) (sm_int _)) (smg_name 2))
 (sms_seq (sms_asg (sm_var 2) (smg_name 3))
 (sms_seq (sms_asg (sm_var 2) (smg_name 4))
 (sms_seq (sms_for (smi_list (sm_var 0)) (smg_name 5)
 (sms_seq (sms_asg (sm_op (f1 := false) (f2 := false) (opd_I0 (g' := fun i j => .int (Builtin.bitAnd i j)) fun _ _ => rfl) (sm_var 3) (sm_op (f1 := false) (f2 := false) (opd_I0 (g' := fun i j => .int (i - j)) fun _ _ => rfl) (sm_var 2) (sm_var 5))) (smg_name 3))
 (sms_asg (sm_op (f1 := false) (f2 := false) (opd_I0 (g' := fun i j => .int (Builtin.bitAnd i j)) fun _ _ => rfl) (sm_var 4) (sm_var 5)) (smg_name 4))))
 (sms_ret (sm_tup (sma_cons (sm_cb (f1 := false) cbd_minL (sma_cons (sm_var 0) sma_nil)) (sma_cons (sm_cb (f1 := false) cbd_maxL (sma_cons (sm_var 0) sma_nil)) (sma_cons (sm_var 3) (sma_cons (sm_var 4) sma_nil)))))))))), ?_⟩
  rintro rs Φ ⟨vs, w, rfl, hl, hv, h2, h⟩
  have pw : 0 < 2 ^ w := Nat.two_pow_pos w
  obtain ⟨top, htop⟩ : ∃ top : Nat, top = 2 ^ w - 1 := ⟨_, rfl⟩
  have etop : (2 : Int) ^ w - 1 = (top : Int) := by
    rw [← PySem.W.kbt_cast]
    omega
  refine seq_by (fun δ => δ = [some (.d (.list (nl vs))), some (.d (.int w)), some (.d (.int top)), none, none, none]) (fun δ hI => ?_) (fun N hN => ?_)
  rotate_left
  · simp
    rw [etop]
    exact ⟨cp1 (by omega) (by omega), hN _ rfl⟩
  subst hI
  simp
  simp only [dFor]
  refine ⟨_, rfl, nl vs, rfl, fun j δ => ∃ (z o : Nat) (y5 : Option R), (∀ v ∈ vs.take j, v &&& z = 0 ∧ v &&& o = o) ∧ δ = [some (.d (.list (nl vs))), some (.d (.int w)), some (.d (.int top)), some (.d (.int z)), some (.d (.int o)), y5], ⟨top, top, none, fun v hv => by rw [List.take_zero] at hv; exact (nomatch hv), rfl⟩, fun j x δ hj hI => ?_, fun δ hI => ?_⟩
  · obtain ⟨z, o, y5, hm, rfl⟩ := hI
    obtain ⟨v, hvj, rfl⟩ : ∃ v : Nat, vs[j]? = some v ∧ x = .int (v : Int) := by
      rw [nl, List.getElem?_map, List.getElem?_map] at hj
      cases e : vs[j]? with
      | none => rw [e] at hj; cases hj
      | some v => rw [e] at hj; exact ⟨v, rfl, (Option.some.inj hj).symm⟩
    have hvw := hv v (List.mem_of_getElem? hvj)
    have ec : (top : Int) - (v : Int) = ((top - v : Nat) : Int) := by omega
    simp [ec, bA]
    refine ⟨z &&& (top - v), o &&& v, fun u hu => ?_, rfl, rfl⟩
    rw [List.take_add_one, hvj] at hu
    rcases List.mem_append.mp hu with hu | hu
    · exact ⟨and_z (hm u hu).1, and_o (hm u hu).2⟩
    · obtain rfl : u = v := by simpa using hu
      refine ⟨?_, ?_⟩
      · rw [Nat.and_comm z, ← Nat.and_assoc, htop, and_comp hvw, Nat.zero_and]
      · rw [Nat.and_comm o, ← Nat.and_assoc, Nat.and_self]
  · obtain ⟨z, o, y5, hm, rfl⟩ := hI
    have hln : (nl vs).length = vs.length := by simp [nl]
    rw [hln, List.take_length] at hm
    simp
    refine ⟨_, rfl, by rw [List.length_map]; exact hl, fun m hm1 hm2 => ⟨_, rfl, by rw [List.length_map]; exact hl, fun M hM1 hM2 => ⟨by decide, ?_⟩⟩⟩
    obtain ⟨m, m1, rfl⟩ := List.mem_map.mp hm1
    obtain ⟨M, M1, rfl⟩ := List.mem_map.mp hM1
    exact h ⟨m, M, z, o⟩ (fun v hv' => ⟨Int.ofNat_le.mp (hm2 _ (List.mem_map_of_mem hv')), Int.ofNat_le.mp (hM2 _ (List.mem_map_of_mem hv')), (hm v hv').1, (hm v hv').2⟩) (hv _ M1)
theorem tk_of {m : Int} (h : 0 < m) (h2 : m ≤ 100) : Tk m := ⟨h, Nat.lt_of_lt_of_le (show m.natAbs < 2 ^ 7 by omega) (Nat.pow_le_pow_right (by decide) (by decide))⟩
def vp__law_loose : VSp := fun rs Φ => ∃ (r : Rg) (w : Nat), rs = [.drw, .d (rg r), .d (.int w)] ∧ r.l < 2 ^ w ∧ r.h < 2 ^ w ∧ 1 ≤ w ∧ w ≤ 64 ∧ ∀ l h m n : Nat, l ≤ r.l → r.h ≤ h → h < 2 ^ w → Φ (.d (rg ⟨l, h, r.z &&& m, r.o &&& n⟩))
theorem len__law_loose : ∀ rs Φ, vp__law_loose rs Φ → rs.length = 3 := fun rs Φ ⟨_, _, e, _⟩ => by rw [e]; rfl
theorem G__law_loose (T : Txt K mg w) : FnOk P w K mg base CX0 3 T.f__law_loose T.fd__law_loose ["draw", "bounds", "w"] (toSp K 3 vp__law_loose) := by
  refine fn_ok T.F__law_loose sc__law_loose fun cdv A outer s H E hr => ⟨_, (pss_cons (ps_set (i := 3) sc__law_loose.nd rfl (Or.inl rfl) (pe_op op_sub (pe_op op_shl pe_int (pv 2)) pe_int))
 (pss_cons (ps_asg (pv 1) (pg_tup rfl (pgs_cons (pg_name (i := 6) sc__law_loose.nd rfl (Or.inl rfl)) (pgs_cons (pg_name (i := 7) sc__law_loose.nd rfl (Or.inl rfl)) (pgs_cons (pg_name (i := 8) sc__law_loose.nd rfl (Or.inl rfl)) (pgs_cons (pg_name (i := 9) sc__law_loose.nd rfl (Or.inl rfl)) pgs_nil))))))
 (pss_cons (ps_set (i := 4) sc__law_loose.nd rfl (Or.inl rfl) (pe_call (G__law_take T) (hr.mono (by decide)) (by rfl) T.g__law_take T.F__law_take.kp T.b__law_take .nil pass0 (pa_cons (pv 0) (pa_cons pe_int pa_nil))))
 (pss_cons (ps_if (pt_cmpR op_eq (pv 4) pe_int (nomark _)) (pss_one (ps_ret (pv 1))) pss_nil)
 (pss_cons (ps_if (pt_cmpR op_gt (pv 4) pe_int (nomark _)) (pss_cons (ps_set (i := 6) sc__law_loose.nd rfl (Or.inl rfl) (pe_op op_sub (pv 6) (pe_call (G__law_take T) (hr.mono (by decide)) (by rfl) T.g__law_take T.F__law_take.kp T.b__law_take .nil pass0 (pa_cons (pv 0) (pa_cons (pe_op op_add (pe_callB (call_min2 rfl) (by rfl) T.min (by decide +kernel) (pa_cons (pv 6) (pa_cons pe_int pa_nil))) pe_int) pa_nil)))))
 (pss_one (ps_set (i := 7) sc__law_loose.nd rfl (Or.inl rfl) (pe_op op_add (pv 7) (pe_call (G__law_take T) (hr.mono (by decide)) (by rfl) T.g__law_take T.F__law_take.kp T.b__law_take .nil pass0 (pa_cons (pv 0) (pa_cons (pe_op op_add (pe_callB (call_min2 rfl) (by rfl) T.min (by decide +kernel) (pa_cons (pe_op op_sub (pv 3) (pv 7)) (pa_cons pe_int pa_nil))) pe_int) pa_nil))))))) pss_nil)
 (pss_cons (ps_if (pt_cmpR op_eq (pv 4) pe_int (nomark _)) (pss_one (ps_set (i := 6) sc__law_loose.nd rfl (Or.inl rfl) (pe_op op_fdivW (pv 6) (pe_op op_add pe_int (pe_call (G__law_take T) (hr.mono (by decide)) (by rfl) T.g__law_take T.F__law_take.kp T.b__law_take .nil pass0 (pa_cons (pv 0) (pa_cons pe_int pa_nil))))))) pss_nil)
 (pss_cons (ps_set (i := 5) sc__law_loose.nd rfl (Or.inl rfl) (pe_call (G__law_number T) hr (by rfl) T.g__law_number T.F__law_number.kp T.b__law_number .nil pass0 (pa_cons (pv 0) (pa_cons (pv 2) pa_nil))))
 (pss_one (ps_ret (pe_tup (pa_cons (pv 6) (pa_cons (pv 7) (pa_cons (pe_op op_and (pv 8) (pv 5)) (pa_cons (pe_op op_and (pv 9) (pe_op op_shr (pv 5) (pe_call (G__law_take T) (hr.mono (by decide)) (by rfl) T.g__law_take T.F__law_take.kp T.b__law_take .nil pass0 (pa_cons (pv 0) (pa_cons pe_int pa_nil))))) pa_nil)))))))))))))), _, fun ex He Hf => (sms_seq (sms_asg (sm_op (f1 := false) (f2 := false) (opd_I0 (g' := fun i j => .int (i - j)) fun _ _ => rfl) (sm_op (f1 := false) (f2 := false) (opd_I (g' := fun i j => .int (i * 2 ^ j.toNat)) fun _ _ => rfl) (sm_int _) (sm_var 2)) (sm_int _)) (smg_name 3))
 (sms_seq (sms_asg (sm_var 1) (smg_tup (smg_cons (smg_name 6) (smg_cons (smg_name 7) (smg_cons (smg_name 8) (smg_cons (smg_name 9) smg_nil))))))
 (sms_seq (sms_asg (sm_call len__law_take (smq_drw 0 (smq_cons (sm_int _) smq_nil))) (smg_name 4))
 (sms_seq (sms_if (smt_t (f1 := false) (sm_op (f1 := false) (f2 := false) opd_eq (sm_var 4) (sm_int _)))
 (sms_ret (sm_var 1))
 sms_next)
 (sms_seq (sms_if (smt_t (f1 := false) (sm_op (f1 := false) (f2 := false) (opd_I0 (g' := fun i j => .bool (decide (j < i))) fun _ _ => rfl) (sm_var 4) (sm_int _)))
 (sms_seq (sms_asg (sm_op (f1 := false) (f2 := false) (opd_I0 (g' := fun i j => .int (i - j)) fun _ _ => rfl) (sm_var 6) (sm_call len__law_take (smq_drw 0 (smq_cons (sm_op (f1 := false) (f2 := false) (opd_I0 (g' := fun i j => .int (i + j)) fun _ _ => rfl) (sm_cb (f1 := false) cbd_min (sma_cons (sm_var 6) (sma_cons (sm_int _) sma_nil))) (sm_int _)) smq_nil)))) (smg_name 6))
 (sms_asg (sm_op (f1 := false) (f2 := false) (opd_I0 (g' := fun i j => .int (i + j)) fun _ _ => rfl) (sm_var 7) (sm_call len__law_take (smq_drw 0 (smq_cons (sm_op (f1 := false) (f2 := false) (opd_I0 (g' := fun i j => .int (i + j)) fun _ _ => rfl) (sm_cb (f1 := false) cbd_min (sma_cons (sm_op (f1 := false) (f2 := false) (opd_I0 (g' := fun i j => .int (i - j)) fun _ _ => rfl) (sm_var 3) (sm_var 7)) (sma_cons (sm_int _) sma_nil))) (sm_int _)) smq_nil)))) (smg_name 7)))
 sms_next)
 (sms_seq (sms_if (smt_t (f1 := false) (sm_op (f1 := false) (f2 := false) opd_eq (sm_var 4) (sm_int _)))
 (sms_asg (sm_op (f1 := false) (f2 := false) (opd_I (g' := fun i j => .int (i / j)) fun _ _ => rfl) (sm_var 6) (sm_op (f1 := false) (f2 := false) (opd_I0 (g' := fun i j => .int (i + j)) fun _ _ => rfl) (sm_int _) (sm_call len__law_take (smq_drw 0 (smq_cons (sm_int _) smq_nil))))) (smg_name 6))
 sms_next)
 (sms_seq (sms_asg (sm_call len__law_number (smq_drw 0 (smq_cons (sm_var 2) smq_nil))) (smg_name 5))
 (sms_ret (sm_tup (sma_cons (sm_var 6) (sma_cons (sm_var 7) (sma_cons (sm_op (f1 := false) (f2 := false) (opd_I0 (g' := fun i j => .int (Builtin.bitAnd i j)) fun _ _ => rfl) (sm_var 8) (sm_var 5)) (sma_cons (sm_op (f1 := false) (f2 := false) (opd_I0 (g' := fun i j => .int (Builtin.bitAnd i j)) fun _ _ => rfl) (sm_var 9) (sm_op (f1 := false) (f2 := false) (opd_I (g' := fun i j => .int (i / 2 ^ j.toNat)) fun _ _ => rfl) (sm_var 5) (sm_call len__law_take (smq_drw 0 (smq_cons (sm_int _) smq_nil))))) sma_nil))))))))))))), ?_⟩
  rintro rs Φ ⟨r, w, rfl, hrl, hrh, h1, h2, h⟩
  have pw : 0 < 2 ^ w := Nat.two_pow_pos w
  obtain ⟨top, htop⟩ : ∃ top : Nat, top = 2 ^ w - 1 := ⟨_, rfl⟩
  have etop : (2 : Int) ^ w - 1 = (top : Int) := by
    rw [← PySem.W.kbt_cast]
    omega
  have cw : CPow 1 (w : Int) := cp1 (by omega) (by omega)
  have fin : ∀ (L U : Int), 0 ≤ L → L ≤ r.l → (r.h : Int) ≤ U → U ≤ (top : Int) → vp__law_number [R.drw, R.d (.int w)] fun rr => ∃ x, rr.data = .int x ∧ ∀ q : Int, 0 ≤ q → q < 3 → ∃ i, rr.data = .int i ∧ 0 ≤ q ∧ ∃ i1, PyData.int (r.o : Int) = .int i1 ∧ 4 ≤ sizeLine ∧ Φ (RX.d (.tuple [.int L, .int U, .int (Builtin.bitAnd (r.z : Int) x), .int (Builtin.bitAnd i1 (i / 2 ^ q.toNat))])) := by
    intro L U hL hL2 hU hU2
    obtain ⟨l, rfl⟩ := Int.eq_ofNat_of_zero_le hL
    obtain ⟨u, rfl⟩ := Int.eq_ofNat_of_zero_le (show 0 ≤ U by omega)
    refine ⟨w, rfl, h1, h2, fun n hn => ⟨n, rfl, fun q q0 q1 => ⟨n, rfl, q0, r.o, rfl, by decide, ?_⟩⟩⟩
    have e : (n : Int) / 2 ^ q.toNat = ((n / 2 ^ q.toNat : Nat) : Int) := by
      rw [← PySem.W.kbt_cast]
      rfl
    rw [e, bA, bA]
    exact h l u n (n / 2 ^ q.toNat) (by omega) (by omega) (by omega)
  simp [rg, etop]
  refine ⟨cw, rfl, _, _, ⟨rfl, rfl⟩, rfl, fun how h0 h5 => ?_⟩
  split
  · have := h r.l r.h r.z r.o (Nat.le_refl _) (Nat.le_refl _) hrh
    rw [Nat.and_self, Nat.and_self] at this
    exact this
  split
  · refine ⟨tk_of (by split <;> omega) (by split <;> omega), fun a a0 a1 => ⟨tk_of (by split <;> omega) (by split <;> omega), fun b b0 b1 => ?_⟩⟩
    have a2 : a ≤ r.l := by
      split at a1 <;> omega
    have b2 : b ≤ top - r.h := by
      split at b1 <;> omega
    split
    · exact fun c c0 c1 => ⟨cdw (by omega) (by omega), fin _ _ (Int.ediv_nonneg (by omega) (by omega)) (Int.le_trans (Int.ediv_le_self _ (by omega)) (by omega)) (by omega) (by omega)⟩
    · exact fin _ _ (by omega) (by omega) (by omega) (by omega)
  split
  · exact fun c c0 c1 => ⟨cdw (by omega) (by omega), fin _ _ (Int.ediv_nonneg (by omega) (by omega)) (Int.ediv_le_self _ (by omega)) (by omega) (by omega)⟩
  · exact fin _ _ (by omega) (by omega) (by omega) (by omega)


def beD (a b : Rg) : Option Bool := if a.h < b.l then some true else if b.h ≤ a.l then some false else none
def vp__law_below : VSp := fun rs Φ => ∃ a b : Rg, rs = [.d (rg a), .d (rg b)] ∧ Φ (.d (oD (beD a b)))
theorem len__law_below : ∀ rs Φ, vp__law_below rs Φ → rs.length = 2 := fun rs Φ ⟨_, _, e, _⟩ => by rw [e]; rfl
theorem G__law_below (T : Txt K mg w) : FnOk P w K mg base CX0 1 T.f__law_below T.fd__law_below ["a", "b"] (toSp K 2 vp__law_below) := by
  refine fn_ok T.F__law_below sc__law_below fun cdv A outer s H E hr => ⟨_, (pss_cons (ps_if (pt_cmpR op_lt (pe_ix (kx_seq (K := K) rfl) (pv 0) pe_int (fun _ _ => rfl)) (pe_ix (kx_seq (K := K) rfl) (pv 1) pe_int (fun _ _ => rfl)) (nomark _)) (pss_one (ps_ret pe_int)) pss_nil)
 (pss_cons (ps_if (pt_cmpR op_ge (pe_ix (kx_seq (K := K) rfl) (pv 0) pe_int (fun _ _ => rfl)) (pe_ix (kx_seq (K := K) rfl) (pv 1) pe_int (fun _ _ => rfl)) (nomark _)) (pss_one (ps_ret pe_int)) pss_nil)
 (pss_one (ps_ret pe_non)))), _, fun ex He Hf => (sms_seq (sms_if (smt_t (f1 := false) (sm_op (f1 := false) (f2 := false) (opd_I0 (g' := fun i j => .bool (decide (i < j))) fun _ _ => rfl) (sm_ix (f2 := false) (sm_var 0) (sm_int _)) (sm_ix (f2 := false) (sm_var 1) (sm_int _))))
 (sms_ret (sm_int _))
 sms_next)
 (sms_seq (sms_if (smt_t (f1 := false) (sm_op (f1 := false) (f2 := false) (opd_I0 (g' := fun i j => .bool (decide (j ≤ i))) fun _ _ => rfl) (sm_ix (f2 := false) (sm_var 0) (sm_int _)) (sm_ix (f2 := false) (sm_var 1) (sm_int _))))
 (sms_ret (sm_int _))
 sms_next)
 (sms_ret sm_non))), ?_⟩
  rintro rs Φ ⟨a, b, rfl, h⟩
  simp [rg]
  by_cases c1 : a.h < b.l
  · simpa [beD, c1, oD] using h
  by_cases c2 : b.h ≤ a.l
  · simpa [beD, c1, c2, oD] using h
  · simpa [beD, c1, c2, oD] using h
def vp__law_opposite : VSp := fun rs Φ => ∃ x : Option Bool, rs = [.d (oD x)] ∧ Φ (.d (oD (x.map not)))
theorem len__law_opposite : ∀ rs Φ, vp__law_opposite rs Φ → rs.length = 1 := fun rs Φ ⟨_, e, _⟩ => by rw [e]; rfl
theorem G__law_opposite (T : Txt K mg w) : FnOk P w K mg base CX0 1 T.f__law_opposite T.fd__law_opposite ["answer"] (toSp K 1 vp__law_opposite) := by
  refine fn_ok T.F__law_opposite sc__law_opposite fun cdv A outer s H E hr => ⟨_, (pss_cons (ps_if (pt_cmpR op_isN (pv 0) pe_non (nomark _)) (pss_one (ps_ret pe_non)) pss_nil)
 (pss_one (ps_ret (pe_op op_sub pe_int (pv 0))))), _, fun ex He Hf => (sms_seq (sms_if (smt_t (f1 := false) (sm_op (f1 := false) (f2 := false) opd_isN (sm_var 0) sm_non))
 (sms_ret sm_non)
 sms_next)
 (sms_ret (sm_op (f1 := false) (f2 := false) (opd_I0 (g' := fun i j => .int (i - j)) fun _ _ => rfl) (sm_int _) (sm_var 0)))), ?_⟩
  rintro rs Φ ⟨x, rfl, h⟩
  cases x with
  | none => simpa [oD] using h
  | some b => cases b <;> simpa [oD] using h
def vp__law_equal : VSp := fun rs Φ => ∃ a b : Rg, rs = [.d (rg a), .d (rg b)] ∧ Φ (.d (oD (eqR a b)))
theorem len__law_equal : ∀ rs Φ, vp__law_equal rs Φ → rs.length = 2 := fun rs Φ ⟨_, _, e, _⟩ => by rw [e]; rfl
theorem G__law_equal (T : Txt K mg w) : FnOk P w K mg base CX0 1 T.f__law_equal T.fd__law_equal ["a", "b"] (toSp K 2 vp__law_equal) := by
  refine fn_ok T.F__law_equal sc__law_equal fun cdv A outer s H E hr => ⟨_, (pss_cons (ps_if (PW.pt (pw_or (pt_cmpR op_lt (pe_ix (kx_seq (K := K) rfl) (pv 0) pe_int (fun _ _ => rfl)) (pe_ix (kx_seq (K := K) rfl) (pv 1) pe_int (fun _ _ => rfl)) (nomark _)) (pw_or (pt_cmpR op_lt (pe_ix (kx_seq (K := K) rfl) (pv 1) pe_int (fun _ _ => rfl)) (pe_ix (kx_seq (K := K) rfl) (pv 0) pe_int (fun _ _ => rfl)) (nomark _)) (pw_or (pt_cmpR op_ne (pe_op op_and (pe_ix (kx_seq (K := K) rfl) (pv 0) pe_int (fun _ _ => rfl)) (pe_ix (kx_seq (K := K) rfl) (pv 1) pe_int (fun _ _ => rfl))) pe_int (nomark _)) (pw_or1 (pt_cmpR op_ne (pe_op op_and (pe_ix (kx_seq (K := K) rfl) (pv 0) pe_int (fun _ _ => rfl)) (pe_ix (kx_seq (K := K) rfl) (pv 1) pe_int (fun _ _ => rfl))) pe_int (nomark _))))))) (pss_one (ps_ret pe_int)) pss_nil)
 (pss_cons (ps_if (PW.pt (pw_and (pt_cmpR op_eq (pe_ix (kx_seq (K := K) rfl) (pv 0) pe_int (fun _ _ => rfl)) (pe_ix (kx_seq (K := K) rfl) (pv 0) pe_int (fun _ _ => rfl)) (nomark _)) (pw_and1 (pt_cmpR op_eq (pe_ix (kx_seq (K := K) rfl) (pv 1) pe_int (fun _ _ => rfl)) (pe_ix (kx_seq (K := K) rfl) (pv 1) pe_int (fun _ _ => rfl)) (nomark _))))) (pss_one (ps_ret pe_int)) pss_nil)
 (pss_one (ps_ret pe_non)))), _, fun ex He Hf => (sms_seq (sms_if (smt_or (smt_t (f1 := false) (sm_op (f1 := false) (f2 := false) (opd_I0 (g' := fun i j => .bool (decide (i < j))) fun _ _ => rfl) (sm_ix (f2 := false) (sm_var 0) (sm_int _)) (sm_ix (f2 := false) (sm_var 1) (sm_int _)))) (smt_or (smt_t (f1 := false) (sm_op (f1 := false) (f2 := false) (opd_I0 (g' := fun i j => .bool (decide (i < j))) fun _ _ => rfl) (sm_ix (f2 := false) (sm_var 1) (sm_int _)) (sm_ix (f2 := false) (sm_var 0) (sm_int _)))) (smt_or (smt_t (f1 := false) (sm_op (f1 := false) (f2 := false) opd_ne (sm_op (f1 := false) (f2 := false) (opd_I0 (g' := fun i j => .int (Builtin.bitAnd i j)) fun _ _ => rfl) (sm_ix (f2 := false) (sm_var 0) (sm_int _)) (sm_ix (f2 := false) (sm_var 1) (sm_int _))) (sm_int _))) (smt_t (f1 := false) (sm_op (f1 := false) (f2 := false) opd_ne (sm_op (f1 := false) (f2 := false) (opd_I0 (g' := fun i j => .int (Builtin.bitAnd i j)) fun _ _ => rfl) (sm_ix (f2 := false) (sm_var 0) (sm_int _)) (sm_ix (f2 := false) (sm_var 1) (sm_int _))) (sm_int _))))))
 (sms_ret (sm_int _))
 sms_next)
 (sms_seq (sms_if (smt_and (smt_t (f1 := false) (sm_op (f1 := false) (f2 := false) opd_eq (sm_ix (f2 := false) (sm_var 0) (sm_int _)) (sm_ix (f2 := false) (sm_var 0) (sm_int _)))) (smt_t (f1 := false) (sm_op (f1 := false) (f2 := false) opd_eq (sm_ix (f2 := false) (sm_var 1) (sm_int _)) (sm_ix (f2 := false) (sm_var 1) (sm_int _)))))
 (sms_ret (sm_int _))
 sms_next)
 (sms_ret sm_non))), ?_⟩
  rintro rs Φ ⟨a, b, rfl, h⟩
  simp [rg, bA]
  by_cases c1 : a.h < b.l
  · simpa [eqR, c1, oD] using h
  by_cases c2 : b.h < a.l
  · simpa [eqR, c1, c2, oD] using h
  simp only [if_neg c1, if_neg c2]
  by_cases c4 : a.z &&& b.o = 0
  · refine .inl ⟨c4, ?_⟩
    by_cases c3 : a.o &&& b.z = 0
    · refine .inl ⟨c3, ?_⟩
      have cn : ¬ (a.h < b.l ∨ b.h < a.l ∨ a.o &&& b.z ≠ 0 ∨ a.z &&& b.o ≠ 0) := fun e => by
        rcases e with e | e | e | e
        · exact c1 e
        · exact c2 e
        · exact e c3
        · exact e c4
      rw [eqR, if_neg cn] at h
      by_cases c5 : a.l = a.h
      · rw [if_pos (congrArg Nat.cast c5)]
        by_cases c6 : b.l = b.h
        · rw [if_pos (congrArg Nat.cast c6)]
          rw [if_pos ⟨c5, c6⟩] at h
          exact h
        · rw [if_neg fun e => c6 (Int.ofNat_inj.mp e)]
          rw [if_neg fun e => c6 e.2] at h
          exact h
      · rw [if_neg fun e => c5 (Int.ofNat_inj.mp e)]
        rw [if_neg fun e => c5 e.1] at h
        exact h
    · exact .inr ⟨c3, by simpa [eqR, c1, c2, c3, oD] using h⟩
  · exact .inr ⟨c4, by simpa [eqR, c1, c2, c4, oD] using h⟩
theorem and_bit (x k : Nat) : x &&& 2 ^ k = (x.testBit k).toNat * 2 ^ k := by
  rw [PySem.W.kbt_nat, Nat.testBit_eq_decide_div_mod_eq]
  rcases Nat.mod_two_eq_zero_or_one (x / 2 ^ k) with e | e <;> simp [e]
theorem bit_zero (x k : Nat) : x &&& 2 ^ k = 0 ↔ x.testBit k = false := by
  have := Nat.two_pow_pos k
  rw [and_bit]
  cases x.testBit k <;> simp
theorem bit_same (x y k : Nat) : x &&& 2 ^ k = y &&& 2 ^ k ↔ x.testBit k = y.testBit k := by
  have := Nat.two_pow_pos k
  rw [and_bit, and_bit]
  cases x.testBit k <;> cases y.testBit k <;> simp <;> (try omega)

theorem kn_not {k z o : Nat} (ka : ¬ (z ||| o) &&& 2 ^ k = 0) (da : z &&& o = 0) : z.testBit k = !o.testBit k := by
  rw [bit_zero, Nat.testBit_or] at ka
  have h := congrArg (fun x => x.testBit k) da
  simp only [Nat.testBit_and, Nat.zero_testBit] at h
  revert ka h
  cases z.testBit k <;> cases o.testBit k <;> simp
theorem kn_iff {k : Nat} {a b : Rg} (ka : ¬ (a.z ||| a.o) &&& 2 ^ k = 0) (kb : ¬ (b.z ||| b.o) &&& 2 ^ k = 0) (da : a.z &&& a.o = 0) (db : b.z &&& b.o = 0) : a.z &&& 2 ^ k = b.z &&& 2 ^ k ↔ a.o &&& 2 ^ k = b.o &&& 2 ^ k := by
  rw [bit_same, bit_same, kn_not ka da, kn_not kb db]
  cases a.o.testBit k <;> cases b.o.testBit k <;> simp
theorem less_a {w hf : Nat} (e : 2 ^ (w - 1) = hf) {a b : Rg} (c : (a.z ||| a.o) &&& hf = 0) : lessD true w a b = none := by
  rw [lessD, if_pos ⟨rfl, .inl (by rw [unk, e]; exact decide_eq_true c)⟩]
theorem less_b {w hf : Nat} (e : 2 ^ (w - 1) = hf) {a b : Rg} (c : (b.z ||| b.o) &&& hf = 0) : lessD true w a b = none := by
  rw [lessD, if_pos ⟨rfl, .inr (by rw [unk, e]; exact decide_eq_true c)⟩]
theorem less_c {w hf : Nat} (e : 2 ^ (w - 1) = hf) {a b : Rg} (c1 : ¬ (a.z ||| a.o) &&& hf = 0) (c2 : ¬ (b.z ||| b.o) &&& hf = 0) : lessD true w a b = if a.o &&& hf ≠ b.o &&& hf then some (decide (a.o &&& hf ≠ 0)) else beD a b := by
  rw [lessD, if_neg (by
    rintro ⟨_, h | h⟩
    · rw [unk, e] at h; exact c1 (of_decide_eq_true h)
    · rw [unk, e] at h; exact c2 (of_decide_eq_true h)), e]
  by_cases c3 : a.o &&& hf = b.o &&& hf
  · rw [if_neg (show ¬ (true = true ∧ a.o &&& hf ≠ b.o &&& hf) from fun x => x.2 c3), if_neg (show ¬ (a.o &&& hf ≠ b.o &&& hf) from fun x => x c3), beD]
  · rw [if_pos ⟨rfl, c3⟩, if_pos c3]
def vp__law_order : VSp := fun rs Φ => ∃ (p : Str) (w : Nat) (a b : Rg), rs = [.d (.str p), .d (.int w), .d (rg a), .d (rg b)] ∧ p ∈ preds ∧ p ≠ "eq" ∧ p ≠ "ne" ∧ 1 ≤ w ∧ w ≤ 64 ∧ a.z &&& a.o = 0 ∧ b.z &&& b.o = 0 ∧ Φ (.d (oD (dec p w a b)))
theorem len__law_order : ∀ rs Φ, vp__law_order rs Φ → rs.length = 4 := fun rs Φ ⟨_, _, _, _, e, _⟩ => by rw [e]; rfl
theorem G__law_order (T : Txt K mg w) : FnOk P w K mg base CX0 2 T.f__law_order T.fd__law_order ["predicate", "w", "a", "b"] (toSp K 4 vp__law_order) := by
  refine fn_ok T.F__law_order sc__law_order fun cdv A outer s H E hr => ⟨_, (pss_cons (ps_set (i := 4) sc__law_order.nd rfl (Or.inl rfl) (pe_slice sl_str (pv 0) (po_some pe_int) po_none))
 (pss_cons (ps_if (pt_cmpR (kx_in (K := K) rfl) (pv 4) (pe_tup (pa_cons pe_str (pa_cons pe_str pa_nil))) (by rfl)) (pss_cons (ps_set (i := 6) sc__law_order.nd rfl (Or.inl rfl) (pv 3))
 (pss_one (ps_set (i := 7) sc__law_order.nd rfl (Or.inl rfl) (pv 2)))) (pss_cons (ps_set (i := 6) sc__law_order.nd rfl (Or.inl rfl) (pv 2))
 (pss_one (ps_set (i := 7) sc__law_order.nd rfl (Or.inl rfl) (pv 3)))))
 (pss_cons (ps_set (i := 5) sc__law_order.nd rfl (Or.inl rfl) (pe_call (G__law_below T) hr (by rfl) T.g__law_below T.F__law_below.kp T.b__law_below .nil pass0 (pa_cons (pv 6) (pa_cons (pv 7) pa_nil))))
 (pss_cons (ps_if (pt_cmpR op_eq (pe_ix (kx_seq (K := K) rfl) (pv 0) pe_int (fun _ _ => rfl)) pe_str (nomark _)) (pss_cons (ps_set (i := 8) sc__law_order.nd rfl (Or.inl rfl) (pe_op op_shl pe_int (pe_op op_sub (pv 1) pe_int)))
 (pss_cons (ps_if (PW.pt (pw_or (pt_cmpR op_eq (pe_op op_and (pe_op op_or (pe_ix (kx_seq (K := K) rfl) (pv 6) pe_int (fun _ _ => rfl)) (pe_ix (kx_seq (K := K) rfl) (pv 6) pe_int (fun _ _ => rfl))) (pv 8)) pe_int (nomark _)) (pw_or1 (pt_cmpR op_eq (pe_op op_and (pe_op op_or (pe_ix (kx_seq (K := K) rfl) (pv 7) pe_int (fun _ _ => rfl)) (pe_ix (kx_seq (K := K) rfl) (pv 7) pe_int (fun _ _ => rfl))) (pv 8)) pe_int (nomark _))))) (pss_one (ps_ret pe_non)) pss_nil)
 (pss_one (ps_if (pt_cmpR op_ne (pe_op op_and (pe_ix (kx_seq (K := K) rfl) (pv 6) pe_int (fun _ _ => rfl)) (pv 8)) (pe_op op_and (pe_ix (kx_seq (K := K) rfl) (pv 7) pe_int (fun _ _ => rfl)) (pv 8)) (nomark _)) (pss_one (ps_set (i := 5) sc__law_order.nd rfl (Or.inl rfl) (pe_callTy call_int1 (by rfl) T.int (by decide +kernel) (pa_cons (pe_cmpR op_ne (pe_op op_and (pe_ix (kx_seq (K := K) rfl) (pv 6) pe_int (fun _ _ => rfl)) (pv 8)) pe_int (nomark _)) pa_nil)))) pss_nil)))) pss_nil)
 (pss_cons (ps_if (pt_cmpR (kx_in (K := K) rfl) (pv 4) (pe_tup (pa_cons pe_str (pa_cons pe_str pa_nil))) (by rfl)) (pss_one (ps_ret (pe_call (G__law_opposite T) hr (by rfl) T.g__law_opposite T.F__law_opposite.kp T.b__law_opposite .nil pass0 (pa_cons (pv 5) pa_nil)))) pss_nil)
 (pss_one (ps_ret (pv 5)))))))), _, fun ex He Hf => (sms_seq (sms_asg (sm_sl_str (f1 := false) (sm_var 0) (smp_some (f1 := false) (sm_int _)) smp_none) (smg_name 4))
 (sms_seq (sms_if (smt_t (f1 := false) (sm_op (f1 := false) (f2 := false) (opd_in false) (sm_var 4) (sm_tup (sma_cons (sm_str _) (sma_cons (sm_str _) sma_nil)))))
 (sms_seq (sms_asg (sm_var 3) (smg_name 6))
 (sms_asg (sm_var 2) (smg_name 7)))
 (sms_seq (sms_asg (sm_var 2) (smg_name 6))
 (sms_asg (sm_var 3) (smg_name 7))))
 (sms_seq (sms_asg (sm_call len__law_below (smq_cons (sm_var 6) (smq_cons (sm_var 7) smq_nil))) (smg_name 5))
 (sms_seq (sms_if (smt_t (f1 := false) (sm_op (f1 := false) (f2 := false) opd_eq (sm_ix (f2 := false) (sm_var 0) (sm_int _)) (sm_str _)))
 (sms_seq (sms_asg (sm_op (f1 := false) (f2 := false) (opd_I (g' := fun i j => .int (i * 2 ^ j.toNat)) fun _ _ => rfl) (sm_int _) (sm_op (f1 := false) (f2 := false) (opd_I0 (g' := fun i j => .int (i - j)) fun _ _ => rfl) (sm_var 1) (sm_int _))) (smg_name 8))
 (sms_seq (sms_if (smt_or (smt_t (f1 := false) (sm_op (f1 := false) (f2 := false) opd_eq (sm_op (f1 := false) (f2 := false) (opd_I0 (g' := fun i j => .int (Builtin.bitAnd i j)) fun _ _ => rfl) (sm_op (f1 := false) (f2 := false) (opd_I0 (g' := fun i j => .int (Builtin.bitOr i j)) fun _ _ => rfl) (sm_ix (f2 := false) (sm_var 6) (sm_int _)) (sm_ix (f2 := false) (sm_var 6) (sm_int _))) (sm_var 8)) (sm_int _))) (smt_t (f1 := false) (sm_op (f1 := false) (f2 := false) opd_eq (sm_op (f1 := false) (f2 := false) (opd_I0 (g' := fun i j => .int (Builtin.bitAnd i j)) fun _ _ => rfl) (sm_op (f1 := false) (f2 := false) (opd_I0 (g' := fun i j => .int (Builtin.bitOr i j)) fun _ _ => rfl) (sm_ix (f2 := false) (sm_var 7) (sm_int _)) (sm_ix (f2 := false) (sm_var 7) (sm_int _))) (sm_var 8)) (sm_int _))))
 (sms_ret sm_non)
 sms_next)
 (sms_if (smt_t (f1 := false) (sm_op (f1 := false) (f2 := false) opd_ne (sm_op (f1 := false) (f2 := false) (opd_I0 (g' := fun i j => .int (Builtin.bitAnd i j)) fun _ _ => rfl) (sm_ix (f2 := false) (sm_var 6) (sm_int _)) (sm_var 8)) (sm_op (f1 := false) (f2 := false) (opd_I0 (g' := fun i j => .int (Builtin.bitAnd i j)) fun _ _ => rfl) (sm_ix (f2 := false) (sm_var 7) (sm_int _)) (sm_var 8))))
 (sms_asg (sm_cb (f1 := false) cbd_int (sma_cons (sm_op (f1 := false) (f2 := false) opd_ne (sm_op (f1 := false) (f2 := false) (opd_I0 (g' := fun i j => .int (Builtin.bitAnd i j)) fun _ _ => rfl) (sm_ix (f2 := false) (sm_var 6) (sm_int _)) (sm_var 8)) (sm_int _)) sma_nil)) (smg_name 5))
 sms_next)))
 sms_next)
 (sms_seq (sms_if (smt_t (f1 := false) (sm_op (f1 := false) (f2 := false) (opd_in false) (sm_var 4) (sm_tup (sma_cons (sm_str _) (sma_cons (sm_str _) sma_nil)))))
 (sms_ret (sm_call len__law_opposite (smq_cons (sm_var 5) smq_nil)))
 sms_next)
 (sms_ret (sm_var 5))))))), ?_⟩
  rintro rs Φ ⟨p, w, a, b, rfl, hp, n1, n2, h1, h2, ha, hb, h⟩
  have l2 : (2 : Nat) ≤ sizeLine := by decide
  have e1 : ((w : Int) - 1).toNat = w - 1 := by omega
  obtain ⟨hf, ehf⟩ : ∃ hf : Nat, 2 ^ (w - 1) = hf := ⟨_, rfl⟩
  have eI : (2 : Int) ^ (w - 1) = (hf : Int) := by rw [← PySem.W.kbt_cast, ehf]
  have kn := fun ka kb => kn_iff (k := w - 1) (a := a) (b := b) ka kb ha hb
  have kn2 := fun ka kb => kn_iff (k := w - 1) (a := b) (b := a) ka kb hb ha
  rw [ehf] at kn kn2
  rcases preds_cases hp with rfl | rfl | rfl | rfl | rfl | rfl | rfl | rfl | rfl | rfl
  · exact absurd rfl n1
  · exact absurd rfl n2
  · simp [p1_ult, pl_ult, pc_ult, inD, l2, nos_u]
    exact ⟨a, b, rfl, by simpa [dec, lessD, beD] using h⟩
  · simp [p1_ule, pl_ule, pc_ule, inD, l2, nos_u]
    exact ⟨b, a, rfl, beD b a, rfl, by simpa [dec, lessD, beD] using h⟩
  · simp [p1_ugt, pl_ugt, pc_ugt, inD, l2, nos_u]
    exact ⟨b, a, rfl, by simpa [dec, lessD, beD] using h⟩
  · simp [p1_uge, pl_uge, pc_uge, inD, l2, nos_u]
    exact ⟨a, b, rfl, beD a b, rfl, by simpa [dec, lessD, beD] using h⟩
  · simp [p1_slt, pl_slt, pc_slt, inD, l2, yes_s, rg, e1, eI, bA, bO]
    refine ⟨a, b, rfl, cp1 (by omega) (by omega), ?_⟩
    have h' : Φ (.d (oD (lessD true w a b))) := by simpa [dec] using h
    by_cases c1 : (a.z ||| a.o) &&& hf = 0
    · rw [less_a ehf c1] at h'
      rw [if_pos c1]
      exact h'
    by_cases c2 : (b.z ||| b.o) &&& hf = 0
    · rw [less_b ehf c2] at h'
      rw [if_neg c1, if_pos c2]
      exact h'
    rw [if_neg c1, if_neg c2]
    rw [less_c ehf c1 c2] at h'
    by_cases c3 : a.o &&& hf = b.o &&& hf
    · rw [if_neg fun e => e c3] at h'
      exact .inl ⟨congrArg Nat.cast ((kn c1 c2).mpr c3), h'⟩
    · rw [if_pos c3] at h'
      refine .inr ⟨fun e => c3 ((kn c1 c2).mp (Int.ofNat_inj.mp e)), ?_⟩
      by_cases c4 : a.o &&& hf = 0
      · rw [decide_eq_false fun e => e c4] at h'
        rw [if_pos c4]
        exact h'
      · rw [decide_eq_true c4] at h'
        rw [if_neg c4]
        exact h'
  · simp [p1_sle, pl_sle, pc_sle, inD, l2, yes_s, rg, e1, eI, bA, bO]
    refine ⟨b, a, rfl, cp1 (by omega) (by omega), ?_⟩
    have h' : Φ (.d (oD ((lessD true w b a).map not))) := by simpa [dec] using h
    by_cases c1 : (b.z ||| b.o) &&& hf = 0
    · rw [less_a ehf c1] at h'
      rw [if_pos c1]
      exact h'
    by_cases c2 : (a.z ||| a.o) &&& hf = 0
    · rw [less_b ehf c2] at h'
      rw [if_neg c1, if_pos c2]
      exact h'
    rw [if_neg c1, if_neg c2]
    rw [less_c ehf c1 c2] at h'
    by_cases c3 : b.o &&& hf = a.o &&& hf
    · rw [if_neg fun e => e c3] at h'
      exact .inl ⟨congrArg Nat.cast ((kn2 c1 c2).mpr c3), ⟨beD b a, rfl, h'⟩⟩
    · rw [if_pos c3] at h'
      refine .inr ⟨fun e => c3 ((kn2 c1 c2).mp (Int.ofNat_inj.mp e)), ?_⟩
      by_cases c4 : b.o &&& hf = 0
      · rw [decide_eq_false fun e => e c4] at h'
        rw [if_pos c4]
        exact ⟨some false, rfl, h'⟩
      · rw [decide_eq_true c4] at h'
        rw [if_neg c4]
        exact ⟨some true, rfl, h'⟩
  · simp [p1_sgt, pl_sgt, pc_sgt, inD, l2, yes_s, rg, e1, eI, bA, bO]
    refine ⟨b, a, rfl, cp1 (by omega) (by omega), ?_⟩
    have h' : Φ (.d (oD (lessD true w b a))) := by simpa [dec] using h
    by_cases c1 : (b.z ||| b.o) &&& hf = 0
    · rw [less_a ehf c1] at h'
      rw [if_pos c1]
      exact h'
    by_cases c2 : (a.z ||| a.o) &&& hf = 0
    · rw [less_b ehf c2] at h'
      rw [if_neg c1, if_pos c2]
      exact h'
    rw [if_neg c1, if_neg c2]
    rw [less_c ehf c1 c2] at h'
    by_cases c3 : b.o &&& hf = a.o &&& hf
    · rw [if_neg fun e => e c3] at h'
      exact .inl ⟨congrArg Nat.cast ((kn2 c1 c2).mpr c3), h'⟩
    · rw [if_pos c3] at h'
      refine .inr ⟨fun e => c3 ((kn2 c1 c2).mp (Int.ofNat_inj.mp e)), ?_⟩
      by_cases c4 : b.o &&& hf = 0
      · rw [decide_eq_false fun e => e c4] at h'
        rw [if_pos c4]
        exact h'
      · rw [decide_eq_true c4] at h'
        rw [if_neg c4]
        exact h'
  · simp [p1_sge, pl_sge, pc_sge, inD, l2, yes_s, rg, e1, eI, bA, bO]
    refine ⟨a, b, rfl, cp1 (by omega) (by omega), ?_⟩
    have h' : Φ (.d (oD ((lessD true w a b).map not))) := by simpa [dec] using h
    by_cases c1 : (a.z ||| a.o) &&& hf = 0
    · rw [less_a ehf c1] at h'
      rw [if_pos c1]
      exact h'
    by_cases c2 : (b.z ||| b.o) &&& hf = 0
    · rw [less_b ehf c2] at h'
      rw [if_neg c1, if_pos c2]
      exact h'
    rw [if_neg c1, if_neg c2]
    rw [less_c ehf c1 c2] at h'
    by_cases c3 : a.o &&& hf = b.o &&& hf
    · rw [if_neg fun e => e c3] at h'
      exact .inl ⟨congrArg Nat.cast ((kn c1 c2).mpr c3), ⟨beD a b, rfl, h'⟩⟩
    · rw [if_pos c3] at h'
      refine .inr ⟨fun e => c3 ((kn c1 c2).mp (Int.ofNat_inj.mp e)), ?_⟩
      by_cases c4 : a.o &&& hf = 0
      · rw [decide_eq_false fun e => e c4] at h'
        rw [if_pos c4]
        exact ⟨some false, rfl, h'⟩
      · rw [decide_eq_true c4] at h'
        rw [if_neg c4]
        exact ⟨some true, rfl, h'⟩

/-! ### what a decided comparison says -/
theorem mem_bit {k v : Nat} {a : Rg} (ka : ¬ (a.z ||| a.o) &&& 2 ^ k = 0) (h : Mem v a) : v.testBit k = a.o.testBit k := by
  obtain ⟨_, _, hz, ho⟩ := h
  rw [bit_zero, Nat.testBit_or] at ka
  have h1 := congrArg (fun x => x.testBit k) hz
  have h2 := congrArg (fun x => x.testBit k) ho
  simp only [Nat.testBit_and, Nat.zero_testBit] at h1 h2
  revert ka h1 h2
  cases v.testBit k <;> cases a.z.testBit k <;> cases a.o.testBit k <;> simp
theorem top_bit {k v : Nat} (h : v < 2 ^ (k + 1)) : v.testBit k = true ↔ 2 ^ k ≤ v := by
  have hp := Nat.two_pow_pos k
  rw [Nat.pow_succ] at h
  rw [Nat.testBit_eq_decide_div_mod_eq, decide_eq_true_iff]
  by_cases hv : 2 ^ k ≤ v
  · have : v / 2 ^ k = 1 := by
      rw [Nat.div_eq_iff hp]
      omega
    simp [this, hv]
  · rw [Nat.div_eq_of_lt (by omega)]
    simp [hv]
theorem dis_of {v : Nat} {a : Rg} (h : Mem v a) : a.z &&& a.o = 0 := by
  obtain ⟨_, _, hz, ho⟩ := h
  rw [← ho, ← Nat.and_assoc, Nat.and_comm a.z, hz, Nat.zero_and]
theorem be_sound {x y : Nat} {a b : Rg} {c : Bool} (hx : Mem x a) (hy : Mem y b) (h : beD a b = some c) : decide (x < y) = c := by
  obtain ⟨x1, x2, _⟩ := hx
  obtain ⟨y1, y2, _⟩ := hy
  unfold beD at h
  split at h
  · rw [← Option.some.inj h]
    exact decide_eq_true (by omega)
  · split at h
    · rw [← Option.some.inj h]
      exact decide_eq_false (by omega)
    · cases h
theorem eq_sound {x y : Nat} {a b : Rg} {c : Bool} (hx : Mem x a) (hy : Mem y b) (h : eqR a b = some c) : decide (x = y) = c := by
  obtain ⟨x1, x2, x3, x4⟩ := hx
  obtain ⟨y1, y2, y3, y4⟩ := hy
  unfold eqR at h
  split at h
  · rename_i hc
    rw [← Option.some.inj h]
    refine decide_eq_false fun e => ?_
    subst e
    rcases hc with hc | hc | hc | hc
    · omega
    · omega
    · refine hc ?_
      rw [← x4, Nat.and_assoc, Nat.and_comm a.o, ← Nat.and_assoc, y3, Nat.zero_and]
    · refine hc ?_
      rw [← y4, ← Nat.and_assoc, Nat.and_comm a.z, x3, Nat.zero_and]
  · rename_i hn
    split at h
    · rename_i hc
      rw [← Option.some.inj h]
      refine decide_eq_true ?_
      have := fun e => hn (.inl e)
      have := fun e => hn (.inr (.inl e))
      omega
    · cases h
theorem less_sound0 {w x y : Nat} {a b : Rg} {c : Bool} (hx : Mem x a) (hy : Mem y b) (h : lessD false w a b = some c) : decide ((x : Int) < (y : Int)) = c := by
  rw [show decide ((x : Int) < (y : Int)) = decide (x < y) from decide_eq_decide.mpr Int.ofNat_lt]
  exact be_sound hx hy (by simpa [lessD, beD] using h)
theorem sgn_nat {w x : Nat} : sgn w (x : Int) = if 2 ^ (w - 1) ≤ x then (x : Int) - 2 ^ w else (x : Int) := by
  unfold sgn
  rw [← PySem.W.kbt_cast]
  by_cases h : 2 ^ (w - 1) ≤ x
  · rw [if_pos h, if_pos (Int.ofNat_le.mpr h)]
  · rw [if_neg h, if_neg fun e => h (Int.ofNat_le.mp e)]
theorem less_sound1 {w x y : Nat} {a b : Rg} {c : Bool} (h1 : 1 ≤ w) (xw : x < 2 ^ w) (yw : y < 2 ^ w) (hx : Mem x a) (hy : Mem y b) (h : lessD true w a b = some c) : decide (sgn w (x : Int) < sgn w (y : Int)) = c := by
  obtain ⟨k, rfl⟩ : ∃ k, w = k + 1 := ⟨w - 1, by omega⟩
  rw [sgn_nat, sgn_nat, Nat.add_sub_cancel]
  by_cases c1 : (a.z ||| a.o) &&& 2 ^ k = 0
  · rw [less_a (hf := 2 ^ k) rfl c1] at h; cases h
  by_cases c2 : (b.z ||| b.o) &&& 2 ^ k = 0
  · rw [less_b (hf := 2 ^ k) rfl c2] at h; cases h
  rw [less_c (hf := 2 ^ k) rfl c1 c2] at h
  have bx := mem_bit c1 hx
  have by' := mem_bit c2 hy
  have tx := top_bit xw
  have ty := top_bit yw
  have ip : ((2 : Int) ^ (k + 1)) = ((2 ^ (k + 1) : Nat) : Int) := (PySem.W.kbt_cast _).symm
  rw [ip]
  have xw' : (x : Int) < ((2 ^ (k + 1) : Nat) : Int) := Int.ofNat_lt.mpr xw
  have yw' : (y : Int) < ((2 ^ (k + 1) : Nat) : Int) := Int.ofNat_lt.mpr yw
  generalize ((2 ^ (k + 1) : Nat) : Int) = W at xw' yw' ⊢
  rw [bx] at tx
  rw [by'] at ty
  by_cases c3 : a.o &&& 2 ^ k = b.o &&& 2 ^ k
  · rw [if_neg fun e => e c3] at h
    have := be_sound hx hy h
    rw [← this]
    rw [bit_same] at c3
    rw [c3] at tx
    refine decide_eq_decide.mpr ?_
    cases e : b.o.testBit k
    · rw [e] at tx ty
      rw [if_neg fun q => absurd (tx.mpr q) (by decide), if_neg fun q => absurd (ty.mpr q) (by decide)]
      omega
    · rw [e] at tx ty
      rw [if_pos (tx.mp rfl), if_pos (ty.mp rfl)]
      omega
  · rw [if_pos c3] at h
    rw [← Option.some.inj h]
    refine decide_eq_decide.mpr ?_
    rw [bit_same] at c3
    rw [Ne, bit_zero]
    cases e : a.o.testBit k
    · have e2 : b.o.testBit k = true := by
        cases e2 : b.o.testBit k
        · rw [e, e2] at c3; exact absurd rfl c3
        · rfl
      rw [e] at tx
      rw [e2] at ty
      rw [if_neg fun q => absurd (tx.mpr q) (by decide), if_pos (ty.mp rfl)]
      simp
      omega
    · have e2 : b.o.testBit k = false := by
        cases e2 : b.o.testBit k
        · rfl
        · rw [e, e2] at c3; exact absurd rfl c3
      rw [e] at tx
      rw [e2] at ty
      rw [if_pos (tx.mp rfl), if_neg fun q => absurd (ty.mpr q) (by decide)]
      simp
      omega
theorem map_not {x : Option Bool} {c : Bool} (h : x.map not = some c) : x = some (!c) := by
  cases x with
  | none => cases h
  | some b => cases b <;> cases c <;> simp at h ⊢
theorem dec_sound {p : Str} {w x y : Nat} {a b : Rg} {c : Bool} (hp : p ∈ preds) (h1 : 1 ≤ w) (xw : x < 2 ^ w) (yw : y < 2 ^ w) (hx : Mem x a) (hy : Mem y b) (h : dec p w a b = some c) : cmpI p w (x : Int) (y : Int) = c := by
  have ei : ∀ x y : Nat, decide ((x : Int) = (y : Int)) = decide (x = y) := fun x y => decide_eq_decide.mpr Int.ofNat_inj
  have nl : ∀ (i j : Int) (c : Bool), decide (i < j) = (!c) → decide (j ≤ i) = c := fun i j c e => by
    cases c
    · exact decide_eq_false (by have := of_decide_eq_true e; omega)
    · exact decide_eq_true (by have := of_decide_eq_false e; omega)
  rcases preds_cases hp with rfl | rfl | rfl | rfl | rfl | rfl | rfl | rfl | rfl | rfl
  · have := eq_sound hx hy (show eqR a b = some c by simpa [dec] using h)
    rw [show cmpI "eq" w (x : Int) (y : Int) = decide ((x : Int) = (y : Int)) by simp [cmpI], ei, this]
  · have := eq_sound hx hy (map_not (show (eqR a b).map not = some c by simpa [dec] using h))
    rw [show cmpI "ne" w (x : Int) (y : Int) = !decide ((x : Int) = (y : Int)) by simp [cmpI], ei, this, Bool.not_not]
  · have := less_sound0 hx hy (show lessD false w a b = some c by simpa [dec] using h)
    rw [show cmpI "ult" w (x : Int) (y : Int) = decide ((x : Int) < (y : Int)) by simp [cmpI], this]
  · have := less_sound0 hy hx (map_not (show (lessD false w b a).map not = some c by simpa [dec] using h))
    rw [show cmpI "ule" w (x : Int) (y : Int) = decide ((x : Int) ≤ (y : Int)) by simp [cmpI], nl _ _ _ this]
  · have := less_sound0 hy hx (show lessD false w b a = some c by simpa [dec] using h)
    rw [show cmpI "ugt" w (x : Int) (y : Int) = decide ((y : Int) < (x : Int)) by simp [cmpI], this]
  · have := less_sound0 hx hy (map_not (show (lessD false w a b).map not = some c by simpa [dec] using h))
    rw [show cmpI "uge" w (x : Int) (y : Int) = decide ((y : Int) ≤ (x : Int)) by simp [cmpI], nl _ _ _ this]
  · have := less_sound1 h1 xw yw hx hy (show lessD true w a b = some c by simpa [dec] using h)
    rw [show cmpI "slt" w (x : Int) (y : Int) = decide (sgn w (x : Int) < sgn w (y : Int)) by simp [cmpI], this]
  · have := less_sound1 h1 yw xw hy hx (map_not (show (lessD true w b a).map not = some c by simpa [dec] using h))
    rw [show cmpI "sle" w (x : Int) (y : Int) = decide (sgn w (x : Int) ≤ sgn w (y : Int)) by simp [cmpI], nl _ _ _ this]
  · have := less_sound1 h1 yw xw hy hx (show lessD true w b a = some c by simpa [dec] using h)
    rw [show cmpI "sgt" w (x : Int) (y : Int) = decide (sgn w (y : Int) < sgn w (x : Int)) by simp [cmpI], this]
  · have := less_sound1 h1 xw yw hx hy (map_not (show (lessD true w a b).map not = some c by simpa [dec] using h))
    rw [show cmpI "sge" w (x : Int) (y : Int) = decide (sgn w (y : Int) ≤ sgn w (x : Int)) by simp [cmpI], nl _ _ _ this]
theorem oLc_q {Q : Nat → Prop} {da : DE} {i : Nat} {de : DE} {δ : Dl} {Φ : List PyData → Prop} (h : ∀ Ψ : PyData → Prop, (∀ n : Nat, n < 1000000 → Q n → Ψ (.int n)) → da δ Ψ) (P : List PyData → Prop) (h0 : P [])
    (hs : ∀ (k : Nat) (acc : List PyData) (Ψ : PyData → Prop), acc.length = k → P acc → (∀ z, P (acc ++ [z]) → Ψ z) → de (δ.set i (some (.d (.int k)))) Ψ) (hΦ : ∀ n acc, Q n → acc.length = n → P acc → Φ acc) : oLc (iR1 da) i dYes de δ Φ := by
  unfold oLc
  refine h _ fun n hn hq => ⟨n, rfl, by omega, by omega, fun k acc => acc.length = k ∧ P acc, ⟨rfl, h0⟩, fun k y acc hy ha => ?_, fun acc ha => ?_⟩
  · obtain ⟨hk, rfl⟩ := rng_get hy
    have hk : k < n := hk
    unfold dYes
    dsimp only
    rw [if_pos rfl]
    rw [show (0 : Int) + (k : Int) = (k : Int) from Int.zero_add _]
    refine hs k acc _ ha.1 ha.2 fun z hz => ⟨?_, ?_, hz⟩
    · rw [ha.1]
      exact Nat.lt_of_lt_of_le (show k < 1000000 by omega) (by decide)
    · rw [List.length_append, ha.1]; rfl
  · rw [rng_len] at ha
    exact hΦ n acc hq ha.1 ha.2
theorem oLc_w {di : DI} {i : Nat} {de : DE} {δ : Dl} {Φ : List PyData → Prop} {xs : List PyData} (hn : xs.length < 1000000) (h : ∀ Ψ : List PyData → Prop, Ψ xs → di δ Ψ) (P : List PyData → Prop) (h0 : P [])
    (hs : ∀ (k : Nat) (y : PyData) (acc : List PyData) (Ψ : PyData → Prop), xs[k]? = some y → acc.length = k → P acc → (∀ z, P (acc ++ [z]) → Ψ z) → de (δ.set i (some (.d y))) Ψ) (hΦ : ∀ acc, acc.length = xs.length → P acc → Φ acc) : oLc di i dYes de δ Φ := by
  unfold oLc
  refine h _ ⟨fun k acc => acc.length = k ∧ P acc, ⟨rfl, h0⟩, fun k y acc hy ha => ?_, fun acc ha => hΦ acc ha.1 ha.2⟩
  unfold dYes
  dsimp only
  rw [if_pos rfl]
  have hk := (List.getElem?_eq_some_iff.mp hy).1
  refine hs k y acc _ hy ha.1 ha.2 fun z hz => ⟨?_, ?_, hz⟩
  · rw [ha.1]
    exact Nat.lt_of_lt_of_le (show k < 1000000 by omega) (by decide)
  · rw [List.length_append, ha.1]; rfl
theorem nl_len (vs : List Nat) : (nl vs).length = vs.length := by simp [nl]
theorem nl_snoc (vs : List Nat) (n : Nat) : nl (vs ++ [n]) = nl vs ++ [.int n] := by simp [nl]
theorem nl_at {vs : List Nat} {k : Nat} {y : PyData} (h : (nl vs)[k]? = some y) : ∃ v ∈ vs, y = .int (v : Int) := by
  rw [nl, List.getElem?_map, List.getElem?_map] at h
  cases e : vs[k]? with
  | none => rw [e] at h; cases h
  | some v => rw [e] at h; exact ⟨v, List.mem_of_getElem? e, (Option.some.inj h).symm⟩
def Ps (w : Nat) (acc : List PyData) : Prop := ∃ vs : List Nat, (∀ v ∈ vs, v < 2 ^ w) ∧ acc = nl vs
theorem ps_snoc {w n : Nat} {acc : List PyData} (h : Ps w acc) (hn : n < 2 ^ w) : Ps w (acc ++ [.int n]) := by
  obtain ⟨vs, hv, rfl⟩ := h
  refine ⟨vs ++ [n], fun v hm => ?_, (nl_snoc vs n).symm⟩
  rcases List.mem_append.mp hm with hm | hm
  · exact hv v hm
  · rw [List.mem_singleton.mp hm]; exact hn
theorem ite_t {p : Prop} {d : Decidable p} {a b : Prop} (h : p) (ha : a) : @ite Prop p d a b := by rw [if_pos h]; exact ha
theorem ite_f {p : Prop} {d : Decidable p} {a b : Prop} (h : ¬ p) (ha : b) : @ite Prop p d a b := by rw [if_neg h]; exact ha

def kds : List Str := ["i8", "i32", "i1", "i64", "i16"]
theorem ok_law (T : Txt K mg w) : FnOk P w K mg base CX0 10 T.f_law T.fd_law ["script"] (spLaw K) := by
  refine T.F_law.ok sc_law (fun vs H Q E h => ?_) (fun cdv A outer s H vs Q E hr h => ?_)
  · obtain ⟨a, ns, rfl, _⟩ := h
    rfl
  obtain ⟨a, ns, rfl, hS, hlen, k⟩ := h
  refine ⟨_, (pss_cons (ps_set (i := 1) sc_law.nd rfl (Or.inr rfl) (pe_call (G__law_draw T) (hr.mono (by decide)) (by rfl) T.g__law_draw T.F__law_draw.kp T.b__law_draw .nil pass0 (pa_cons (pv 0) pa_nil)))
 (pss_cons (ps_set (i := 2) sc_law.nd rfl (Or.inl rfl) (pe_ix (kx_seq (K := K) rfl) (pe_lst (pa_cons pe_str (pa_cons pe_str (pa_cons pe_str (pa_cons pe_str (pa_cons pe_str pa_nil)))))) (pe_call (G__law_take T) (hr.mono (by decide)) (by rfl) T.g__law_take T.F__law_take.kp T.b__law_take .nil pass0 (pa_cons (pv 1) (pa_cons pe_int pa_nil))) (fun _ _ => rfl)))
 (pss_cons (ps_set (i := 3) sc_law.nd rfl (Or.inr rfl) (pe_call (G__law_width T) (hr.mono (by decide)) (by rfl) T.g__law_width T.F__law_width.kp T.b__law_width .nil pass0 (pa_cons (pv 2) pa_nil)))
 (pss_cons (ps_set (i := 4) sc_law.nd rfl (Or.inl rfl) (pe_lst (pa_cons pe_str (pa_cons pe_str (pa_cons pe_str (pa_cons pe_str (pa_cons pe_str (pa_cons pe_str (pa_cons pe_str (pa_cons pe_str (pa_cons pe_str (pa_cons pe_str pa_nil))))))))))))
 (pss_cons (ps_set (i := 5) sc_law.nd rfl (Or.inl rfl) (pe_ix (kx_seq (K := K) rfl) (pv 4) (pe_call (G__law_take T) (hr.mono (by decide)) (by rfl) T.g__law_take T.F__law_take.kp T.b__law_take .nil pass0 (pa_cons (pv 1) (pa_cons pe_int pa_nil))) (fun _ _ => rfl)))
 (pss_cons (ps_setLc (i := 6) (own := [("k", 14)]) (g := gName 14) (tt := tYes) rfl sc_law.nd rfl rfl (sw_true rfl rfl rfl (by decide +kernel)) (pi_range1 rfl T.range (pa_cons (pe_op op_add pe_int (pe_call (G__law_take T) (hr.mono (by decide)) (by rfl) T.g__law_take T.F__law_take.kp T.b__law_take .nil pass0 (pa_cons (pv 1) (pa_cons pe_int pa_nil)))) pa_nil)) (blkOk_by (N := ["script", "draw", "kind", "w", "words", "predicate", "first", "second", "a", "b", "answer", "due", "x", "y", "k", "value"]) (sc := defScope slaw) (by decide +kernel)) (fun _ _ _ _ _ => pg_name (i := 14) sc_law.nd rfl (Or.inl rfl)) (fun _ _ _ _ _ => pts_nil) (fun _ _ _ _ _ => (pe_call (G__law_number T) (hr.mono (by decide)) (by rfl) T.g__law_number T.F__law_number.kp T.b__law_number .nil pass0 (pa_cons (pv 1) (pa_cons (pv 3) pa_nil)))))
 (pss_cons (ps_setLc (i := 7) (own := [("k", 14)]) (g := gName 14) (tt := tYes) rfl sc_law.nd rfl rfl (sw_true rfl rfl rfl (by decide +kernel)) (pi_range1 rfl T.range (pa_cons (pe_op op_add pe_int (pe_call (G__law_take T) (hr.mono (by decide)) (by rfl) T.g__law_take T.F__law_take.kp T.b__law_take .nil pass0 (pa_cons (pv 1) (pa_cons pe_int pa_nil)))) pa_nil)) (blkOk_by (N := ["script", "draw", "kind", "w", "words", "predicate", "first", "second", "a", "b", "answer", "due", "x", "y", "k", "value"]) (sc := defScope slaw) (by decide +kernel)) (fun _ _ _ _ _ => pg_name (i := 14) sc_law.nd rfl (Or.inl rfl)) (fun _ _ _ _ _ => pts_nil) (fun _ _ _ _ _ => (pe_call (G__law_number T) (hr.mono (by decide)) (by rfl) T.g__law_number T.F__law_number.kp T.b__law_number .nil pass0 (pa_cons (pv 1) (pa_cons (pv 3) pa_nil)))))
 (pss_cons (ps_if (pt_cmpR op_eq (pe_call (G__law_take T) (hr.mono (by decide)) (by rfl) T.g__law_take T.F__law_take.kp T.b__law_take .nil pass0 (pa_cons (pv 1) (pa_cons pe_int pa_nil))) pe_int (nomark _)) (pss_one (ps_setLc (i := 7) (own := [("value", 15)]) (g := gName 15) (tt := tYes) rfl sc_law.nd rfl rfl (sw_true rfl rfl rfl (by decide +kernel)) ((kpi_list (K := K) rfl (pv 6))) (blkOk_by (N := ["script", "draw", "kind", "w", "words", "predicate", "first", "second", "a", "b", "answer", "due", "x", "y", "k", "value"]) (sc := defScope slaw) (by decide +kernel)) (fun _ _ _ _ _ => pg_name (i := 15) sc_law.nd rfl (Or.inl rfl)) (fun _ _ _ _ _ => pts_nil) (fun _ _ _ _ _ => (pe_op op_and (pe_op op_sub (pe_op op_add (pe_op op_add (pv 15) (pe_call (G__law_take T) (hr.mono (by decide)) (by rfl) T.g__law_take T.F__law_take.kp T.b__law_take .nil pass0 (pa_cons (pv 1) (pa_cons pe_int pa_nil)))) (pe_op op_shl pe_int (pv 3))) pe_int) (pe_op op_sub (pe_op op_shl pe_int (pv 3)) pe_int))))) pss_nil)
 (pss_cons (ps_set (i := 8) sc_law.nd rfl (Or.inl rfl) (pe_call (G__law_loose T) (hr.mono (by decide)) (by rfl) T.g__law_loose T.F__law_loose.kp T.b__law_loose .nil pass0 (pa_cons (pv 1) (pa_cons (pe_call (G__law_tight T) (hr.mono (by decide)) (by rfl) T.g__law_tight T.F__law_tight.kp T.b__law_tight .nil pass0 (pa_cons (pv 6) (pa_cons (pv 3) pa_nil))) (pa_cons (pv 3) pa_nil)))))
 (pss_cons (ps_set (i := 9) sc_law.nd rfl (Or.inl rfl) (pe_call (G__law_loose T) (hr.mono (by decide)) (by rfl) T.g__law_loose T.F__law_loose.kp T.b__law_loose .nil pass0 (pa_cons (pv 1) (pa_cons (pe_call (G__law_tight T) (hr.mono (by decide)) (by rfl) T.g__law_tight T.F__law_tight.kp T.b__law_tight .nil pass0 (pa_cons (pv 7) (pa_cons (pv 3) pa_nil))) (pa_cons (pv 3) pa_nil)))))
 (pss_cons (ps_set (i := 10) sc_law.nd rfl (Or.inl rfl) (pe_call (G_decide T) hr (by rfl) T.g_decide T.F_decide.kp T.b_decide .nil pass0 (pa_cons (pv 5) (pa_cons (pv 2) (pa_cons (pv 8) (pa_cons (pv 9) pa_nil))))))
 (pss_cons (ps_set (i := 11) sc_law.nd rfl (Or.inl rfl) pe_non)
 (pss_cons (ps_if (pt_cmpR op_eq (pv 5) pe_str (nomark _)) (pss_one (ps_set (i := 11) sc_law.nd rfl (Or.inl rfl) (pe_call (G__law_equal T) (hr.mono (by decide)) (by rfl) T.g__law_equal T.F__law_equal.kp T.b__law_equal .nil pass0 (pa_cons (pv 8) (pa_cons (pv 9) pa_nil))))) (pss_one (ps_if (pt_cmpR op_eq (pv 5) pe_str (nomark _)) (pss_one (ps_set (i := 11) sc_law.nd rfl (Or.inl rfl) (pe_call (G__law_opposite T) (hr.mono (by decide)) (by rfl) T.g__law_opposite T.F__law_opposite.kp T.b__law_opposite .nil pass0 (pa_cons (pe_call (G__law_equal T) (hr.mono (by decide)) (by rfl) T.g__law_equal T.F__law_equal.kp T.b__law_equal .nil pass0 (pa_cons (pv 8) (pa_cons (pv 9) pa_nil))) pa_nil)))) (pss_one (ps_set (i := 11) sc_law.nd rfl (Or.inl rfl) (pe_call (G__law_order T) (hr.mono (by decide)) (by rfl) T.g__law_order T.F__law_order.kp T.b__law_order .nil pass0 (pa_cons (pv 5) (pa_cons (pv 3) (pa_cons (pv 8) (pa_cons (pv 9) pa_nil))))))))))
 (pss_cons (ps_if (PW.pt (pw_or (pt_cmpR op_ne (pv 10) (pv 11) (nomark _)) (pw_or1 (pt_cmpR op_ne (pe_cmpR op_isN (pv 10) pe_non (nomark _)) (pe_cmpR op_isN (pv 11) pe_non (nomark _)) (nomark _))))) (pss_one (ps_ret pe_bl)) pss_nil)
 (pss_cons (ps_if (pt_cmpR op_isN (pv 10) pe_non (nomark _)) (pss_one (ps_ret pe_bl)) pss_nil)
 (pss_cons (ps_if (pt_not (pt_val (pe_call (G__law_whole T) (hr.mono (by decide)) (by rfl) T.g__law_whole T.F__law_whole.kp T.b__law_whole .nil pass0 (pa_cons (pv 10) pa_nil)))) (pss_one (ps_ret pe_bl)) pss_nil)
 (pss_cons (ps_for PassesOwn.never rfl ((kpi_list (K := K) rfl (pv 6))) (pg_name (i := 12) sc_law.nd rfl (Or.inl rfl)) (pss_one (ps_for PassesOwn.never rfl ((kpi_list (K := K) rfl (pv 7))) (pg_name (i := 13) sc_law.nd rfl (Or.inl rfl)) (pss_one (ps_if (pt_cmpR op_ne (pe_call (G__law_compare T) (hr.mono (by decide)) (by rfl) T.g__law_compare T.F__law_compare.kp T.b__law_compare .nil pass0 (pa_cons (pv 5) (pa_cons (pv 3) (pa_cons (pv 12) (pa_cons (pv 13) pa_nil))))) (pv 10) (nomark _)) (pss_one (ps_ret pe_bl)) pss_nil)))))
 (pss_one (ps_ret pe_bl))))))))))))))))))), ?_⟩
  refine law_in (n := 14) hS hlen k (fun ex He Hf => (sms_seq (sms_asg (sm_ix (f2 := false) (SmO.sm (smo_lst (sma_cons (sm_str _) (sma_cons (sm_str _) (sma_cons (sm_str _) (sma_cons (sm_str _) (sma_cons (sm_str _) sma_nil))))))) (sm_call len__law_take (smq_drw 1 (smq_cons (sm_int _) smq_nil)))) (smg_name 2))
 (sms_seq (sms_asg (sm_call len__law_width (smq_cons (sm_var 2) smq_nil)) (smg_name 3))
 (sms_seq (sms_asg (SmO.sm (smo_lst (sma_cons (sm_str _) (sma_cons (sm_str _) (sma_cons (sm_str _) (sma_cons (sm_str _) (sma_cons (sm_str _) (sma_cons (sm_str _) (sma_cons (sm_str _) (sma_cons (sm_str _) (sma_cons (sm_str _) (sma_cons (sm_str _) sma_nil)))))))))))) (smg_name 4))
 (sms_seq (sms_asg (sm_ix (f2 := false) (sm_var 4) (sm_call len__law_take (smq_drw 1 (smq_cons (sm_int _) smq_nil)))) (smg_name 5))
 (sms_seq (sms_asg (SmO.sm (smo_lc (i := 14) (smi_rng1 (f1 := false) (sm_op (f1 := false) (f2 := false) (opd_I0 (g' := fun i j => .int (i + j)) fun _ _ => rfl) (sm_int _) (sm_call len__law_take (smq_drw 1 (smq_cons (sm_int _) smq_nil))))) smt_yes (sm_call len__law_number (smq_drw 1 (smq_cons (sm_var 3) smq_nil))))) (smg_name 6))
 (sms_seq (sms_asg (SmO.sm (smo_lc (i := 14) (smi_rng1 (f1 := false) (sm_op (f1 := false) (f2 := false) (opd_I0 (g' := fun i j => .int (i + j)) fun _ _ => rfl) (sm_int _) (sm_call len__law_take (smq_drw 1 (smq_cons (sm_int _) smq_nil))))) smt_yes (sm_call len__law_number (smq_drw 1 (smq_cons (sm_var 3) smq_nil))))) (smg_name 7))
 (sms_seq (sms_if (smt_t (f1 := false) (sm_op (f1 := false) (f2 := false) opd_eq (sm_call len__law_take (smq_drw 1 (smq_cons (sm_int _) smq_nil))) (sm_int _)))
 (sms_asg (SmO.sm (smo_lc (i := 15) (smi_list (sm_var 6)) smt_yes (sm_op (f1 := false) (f2 := false) (opd_I0 (g' := fun i j => .int (Builtin.bitAnd i j)) fun _ _ => rfl) (sm_op (f1 := false) (f2 := false) (opd_I0 (g' := fun i j => .int (i - j)) fun _ _ => rfl) (sm_op (f1 := false) (f2 := false) (opd_I0 (g' := fun i j => .int (i + j)) fun _ _ => rfl) (sm_op (f1 := false) (f2 := false) (opd_I0 (g' := fun i j => .int (i + j)) fun _ _ => rfl) (sm_var 15) (sm_call len__law_take (smq_drw 1 (smq_cons (sm_int _) smq_nil)))) (sm_op (f1 := false) (f2 := false) (opd_I (g' := fun i j => .int (i * 2 ^ j.toNat)) fun _ _ => rfl) (sm_int _) (sm_var 3))) (sm_int _)) (sm_op (f1 := false) (f2 := false) (opd_I0 (g' := fun i j => .int (i - j)) fun _ _ => rfl) (sm_op (f1 := false) (f2 := false) (opd_I (g' := fun i j => .int (i * 2 ^ j.toNat)) fun _ _ => rfl) (sm_int _) (sm_var 3)) (sm_int _))))) (smg_name 7))
 sms_next)
 (sms_seq (sms_asg (sm_call len__law_loose (smq_drw 1 (smq_cons (sm_call len__law_tight (smq_cons (sm_var 6) (smq_cons (sm_var 3) smq_nil))) (smq_cons (sm_var 3) smq_nil)))) (smg_name 8))
 (sms_seq (sms_asg (sm_call len__law_loose (smq_drw 1 (smq_cons (sm_call len__law_tight (smq_cons (sm_var 7) (smq_cons (sm_var 3) smq_nil))) (smq_cons (sm_var 3) smq_nil)))) (smg_name 9))
 (sms_seq (sms_asg (sm_call len_decide (smq_cons (sm_var 5) (smq_cons (sm_var 2) (smq_cons (sm_var 8) (smq_cons (sm_var 9) smq_nil))))) (smg_name 10))
 (sms_seq (sms_asg sm_non (smg_name 11))
 (sms_seq (sms_if (smt_t (f1 := false) (sm_op (f1 := false) (f2 := false) opd_eq (sm_var 5) (sm_str _)))
 (sms_asg (sm_call len__law_equal (smq_cons (sm_var 8) (smq_cons (sm_var 9) smq_nil))) (smg_name 11))
 (sms_if (smt_t (f1 := false) (sm_op (f1 := false) (f2 := false) opd_eq (sm_var 5) (sm_str _)))
 (sms_asg (sm_call len__law_opposite (smq_cons (sm_call len__law_equal (smq_cons (sm_var 8) (smq_cons (sm_var 9) smq_nil))) smq_nil)) (smg_name 11))
 (sms_asg (sm_call len__law_order (smq_cons (sm_var 5) (smq_cons (sm_var 3) (smq_cons (sm_var 8) (smq_cons (sm_var 9) smq_nil))))) (smg_name 11))))
 (sms_seq (sms_if (smt_or (smt_t (f1 := false) (sm_op (f1 := false) (f2 := false) opd_ne (sm_var 10) (sm_var 11))) (smt_t (f1 := false) (sm_op (f1 := false) (f2 := false) opd_ne (sm_op (f1 := false) (f2 := false) opd_isN (sm_var 10) sm_non) (sm_op (f1 := false) (f2 := false) opd_isN (sm_var 11) sm_non))))
 (sms_ret (sm_bl _))
 sms_next)
 (sms_seq (sms_if (smt_t (f1 := false) (sm_op (f1 := false) (f2 := false) opd_isN (sm_var 10) sm_non))
 (sms_ret (sm_bl _))
 sms_next)
 (sms_seq (sms_if (smt_not (smt_b (f1 := false) (sm_call len__law_whole (smq_cons (sm_var 10) smq_nil))))
 (sms_ret (sm_bl _))
 sms_next)
 (sms_seq (sms_for (smi_list (sm_var 6)) (smg_name 12)
 (sms_for (smi_list (sm_var 7)) (smg_name 13)
 (sms_if (smt_t (f1 := false) (sm_op (f1 := false) (f2 := false) opd_ne (sm_call len__law_compare (smq_cons (sm_var 5) (smq_cons (sm_var 3) (smq_cons (sm_var 12) (smq_cons (sm_var 13) smq_nil))))) (sm_var 10)))
 (sms_ret (sm_bl _))
 sms_next)))
 (sms_ret (sm_bl _))))))))))))))))))) (fun raw => ?_)
  have wof : ∀ n : Int, 0 ≤ n → n < 5 → ∃ (kd : Str) (w : Nat), 1 ≤ w ∧ w ≤ 64 ∧ (kd, .int w) ∈ L__WIDTHS ∧ atI [PyData.str "i8", .str "i32", .str "i1", .str "i64", .str "i16"] n = some (.str kd) := fun n a b => by
    rcases (show n = 0 ∨ n = 1 ∨ n = 2 ∨ n = 3 ∨ n = 4 by omega) with rfl | rfl | rfl | rfl | rfl
    · exact ⟨"i8", 8, by decide, by decide, by simp [L__WIDTHS], rfl⟩
    · exact ⟨"i32", 32, by decide, by decide, by simp [L__WIDTHS], rfl⟩
    · exact ⟨"i1", 1, by decide, by decide, by simp [L__WIDTHS], rfl⟩
    · exact ⟨"i64", 64, by decide, by decide, by simp [L__WIDTHS], rfl⟩
    · exact ⟨"i16", 16, by decide, by decide, by simp [L__WIDTHS], rfl⟩
  have pof : ∀ n : Int, 0 ≤ n → n < 10 → ∃ p : Str, p ∈ preds ∧ atI [PyData.str "ult", .str "slt", .str "eq", .str "ne", .str "ule", .str "ugt", .str "uge", .str "sle", .str "sgt", .str "sge"] n = some (.str p) := fun n a b => by
    rcases (show n = 0 ∨ n = 1 ∨ n = 2 ∨ n = 3 ∨ n = 4 ∨ n = 5 ∨ n = 6 ∨ n = 7 ∨ n = 8 ∨ n = 9 by omega) with rfl | rfl | rfl | rfl | rfl | rfl | rfl | rfl | rfl | rfl <;> exact ⟨_, by simp [preds], rfl⟩
  refine seq_by (fun δ => ∃ (kd : Str) (w : Nat), 1 ≤ w ∧ w ≤ 64 ∧ (kd, .int w) ∈ L__WIDTHS ∧ δ = [some (.raw raw), some .drw, some (.d (.str kd)), none, none, none, none, none, none, none, none, none, none, none, none, none]) (fun δ hI => ?_) (fun N hN => ?_)
  rotate_left
  · simp
    refine ⟨by decide, fun n n0 n1 => ?_⟩
    obtain ⟨kd, w, w1, w2, w3, w4⟩ := wof n n0 n1
    exact ⟨_, w4, hN _ ⟨kd, w, w1, w2, w3, rfl⟩⟩
  obtain ⟨kd, w, h1, h2, hk, rfl⟩ := hI
  refine seq_by (fun δ => δ = [some (.raw raw), some .drw, some (.d (.str kd)), some (.d (.int w)), none, none, none, none, none, none, none, none, none, none, none, none]) (fun δ hI => ?_) (fun N hN => ?_)
  rotate_left
  · simp
    exact ⟨kd, _, rfl, hk, hN _ rfl⟩
  subst hI
  refine seq_by (fun δ => δ = [some (.raw raw), some .drw, some (.d (.str kd)), some (.d (.int w)), some (.d (.list [.str "ult", .str "slt", .str "eq", .str "ne", .str "ule", .str "ugt", .str "uge", .str "sle", .str "sgt", .str "sge"])), none, none, none, none, none, none, none, none, none, none, none]) (fun δ hI => ?_) (fun N hN => ?_)
  rotate_left
  · simp
    exact ⟨by decide, hN _ rfl⟩
  subst hI
  refine seq_by (fun δ => ∃ p, p ∈ preds ∧ δ = [some (.raw raw), some .drw, some (.d (.str kd)), some (.d (.int w)), some (.d (.list [.str "ult", .str "slt", .str "eq", .str "ne", .str "ule", .str "ugt", .str "uge", .str "sle", .str "sgt", .str "sge"])), some (.d (.str p)), none, none, none, none, none, none, none, none, none, none]) (fun δ hI => ?_) (fun N hN => ?_)
  rotate_left
  · simp
    intro n n0 n1
    obtain ⟨p, hp, e⟩ := pof n n0 n1
    exact ⟨_, e, hN _ ⟨p, hp, rfl⟩⟩
  obtain ⟨p, hp, rfl⟩ := hI
  refine seq_by (fun δ => ∃ xs : List Nat, 0 < xs.length ∧ (∀ v ∈ xs, v < 2 ^ w) ∧ xs.length ≤ 100 ∧ δ = [some (.raw raw), some .drw, some (.d (.str kd)), some (.d (.int w)), some (.d (.list [.str "ult", .str "slt", .str "eq", .str "ne", .str "ule", .str "ugt", .str "uge", .str "sle", .str "sgt", .str "sge"])), some (.d (.str p)), some (.d (.list (nl xs))), none, none, none, none, none, none, none, none, none]) (fun δ hI => ?_) (fun N hN => ?_)
  rotate_left
  · simp
    refine oLc_q (Q := fun n => 1 ≤ n ∧ n ≤ 3) (fun Ψ hΨ => ?_) (Ps w) ⟨[], fun _ h => (nomatch h), rfl⟩ (fun k acc Ψ hl hP hz => ?_) (fun n acc hn hl hP => ?_)
    · simp
      intro r r0 r1
      have := hΨ (1 + r).toNat (by omega) (by omega)
      rwa [show (((1 + r).toNat : Nat) : Int) = 1 + r by omega] at this
    · simp
      exact ⟨w, rfl, h1, h2, fun n hn => hz _ (ps_snoc hP hn)⟩
    · obtain ⟨vs, hv, rfl⟩ := hP
      rw [nl_len] at hl
      exact hN _ ⟨vs, by omega, hv, by omega, rfl⟩
  obtain ⟨xs, x0, xw, xl, rfl⟩ := hI
  refine seq_by (fun δ => ∃ ys : List Nat, 0 < ys.length ∧ (∀ v ∈ ys, v < 2 ^ w) ∧ ys.length ≤ 100 ∧ δ = [some (.raw raw), some .drw, some (.d (.str kd)), some (.d (.int w)), some (.d (.list [.str "ult", .str "slt", .str "eq", .str "ne", .str "ule", .str "ugt", .str "uge", .str "sle", .str "sgt", .str "sge"])), some (.d (.str p)), some (.d (.list (nl xs))), some (.d (.list (nl ys))), none, none, none, none, none, none, none, none]) (fun δ hI => ?_) (fun N hN => ?_)
  rotate_left
  · simp
    refine oLc_q (Q := fun n => 1 ≤ n ∧ n ≤ 3) (fun Ψ hΨ => ?_) (Ps w) ⟨[], fun _ h => (nomatch h), rfl⟩ (fun k acc Ψ hl hP hz => ?_) (fun n acc hn hl hP => ?_)
    · simp
      intro r r0 r1
      have := hΨ (1 + r).toNat (by omega) (by omega)
      rwa [show (((1 + r).toNat : Nat) : Int) = 1 + r by omega] at this
    · simp
      exact ⟨w, rfl, h1, h2, fun n hn => hz _ (ps_snoc hP hn)⟩
    · obtain ⟨vs, hv, rfl⟩ := hP
      rw [nl_len] at hl
      exact hN _ ⟨vs, by omega, hv, by omega, rfl⟩
  obtain ⟨ys, y0, yw, yl, rfl⟩ := hI
  refine seq_by (fun δ => ∃ ys : List Nat, 0 < ys.length ∧ (∀ v ∈ ys, v < 2 ^ w) ∧ ys.length ≤ 100 ∧ δ = [some (.raw raw), some .drw, some (.d (.str kd)), some (.d (.int w)), some (.d (.list [.str "ult", .str "slt", .str "eq", .str "ne", .str "ule", .str "ugt", .str "uge", .str "sle", .str "sgt", .str "sge"])), some (.d (.str p)), some (.d (.list (nl xs))), some (.d (.list (nl ys))), none, none, none, none, none, none, none, none]) (fun δ hI => ?_) (fun N hN => ?_)
  rotate_left
  · simp
    intro r r0 r1
    split
    · refine oLc_w (xs := nl xs) (by rw [nl_len]; omega) (fun Ψ hΨ => ⟨_, rfl, _, rfl, hΨ⟩) (Ps w) ⟨[], fun _ h => (nomatch h), rfl⟩ (fun k y acc Ψ hy hl hP hz => ?_) (fun acc hl hP => ?_)
      · obtain ⟨v, _, rfl⟩ := nl_at hy
        simp
        intro q q0 q1
        refine ⟨cp1 (by omega) (by omega), ?_⟩
        rw [PySem.W.kbt_mask]
        have p0 := pow_pos2 w
        obtain ⟨n, hn⟩ := Int.eq_ofNat_of_zero_le (Int.emod_nonneg ((v : Int) + q + 2 ^ w - 1) (show (2 : Int) ^ w ≠ 0 by omega))
        have hlt := Int.emod_lt_of_pos ((v : Int) + q + 2 ^ w - 1) p0
        rw [hn] at hlt ⊢
        rw [← PySem.W.kbt_cast] at hlt
        exact hz _ (ps_snoc hP (Int.ofNat_lt.mp hlt))
      · obtain ⟨vs, hv, rfl⟩ := hP
        rw [nl_len, nl_len] at hl
        exact hN _ ⟨vs, by omega, hv, by omega, rfl⟩
    · exact hN _ ⟨ys, y0, yw, yl, rfl⟩
  obtain ⟨ys, y0, yw, yl, rfl⟩ := hI
  refine seq_by (fun δ => ∃ a : Rg, (∀ v ∈ xs, Mem v a) ∧ δ = [some (.raw raw), some .drw, some (.d (.str kd)), some (.d (.int w)), some (.d (.list [.str "ult", .str "slt", .str "eq", .str "ne", .str "ule", .str "ugt", .str "uge", .str "sle", .str "sgt", .str "sge"])), some (.d (.str p)), some (.d (.list (nl xs))), some (.d (.list (nl ys))), some (.d (rg a)), none, none, none, none, none, none, none]) (fun δ hI => ?_) (fun N hN => ?_)
  rotate_left
  · simp
    refine ⟨xs, w, rfl, x0, xw, h2, fun r r1 r2 => ?_⟩
    have hm := r1 _ (List.getElem_mem x0)
    refine ⟨r, w, rfl, by have := hm.1; have := hm.2.1; omega, r2, h1, h2, fun l h m n hl hh hh2 => hN _ ⟨_, fun v hv => ?_, rfl⟩⟩
    obtain ⟨m1, m2, m3, m4⟩ := r1 v hv
    exact ⟨Nat.le_trans hl m1, Nat.le_trans m2 hh, and_z m3, and_o m4⟩
  obtain ⟨a, ma, rfl⟩ := hI
  refine seq_by (fun δ => ∃ b : Rg, (∀ v ∈ ys, Mem v b) ∧ δ = [some (.raw raw), some .drw, some (.d (.str kd)), some (.d (.int w)), some (.d (.list [.str "ult", .str "slt", .str "eq", .str "ne", .str "ule", .str "ugt", .str "uge", .str "sle", .str "sgt", .str "sge"])), some (.d (.str p)), some (.d (.list (nl xs))), some (.d (.list (nl ys))), some (.d (rg a)), some (.d (rg b)), none, none, none, none, none, none]) (fun δ hI => ?_) (fun N hN => ?_)
  rotate_left
  · simp
    refine ⟨ys, w, rfl, y0, yw, h2, fun r r1 r2 => ?_⟩
    have hm := r1 _ (List.getElem_mem y0)
    refine ⟨r, w, rfl, by have := hm.1; have := hm.2.1; omega, r2, h1, h2, fun l h m n hl hh hh2 => hN _ ⟨_, fun v hv => ?_, rfl⟩⟩
    obtain ⟨m1, m2, m3, m4⟩ := r1 v hv
    exact ⟨Nat.le_trans hl m1, Nat.le_trans m2 hh, and_z m3, and_o m4⟩
  obtain ⟨b, mb, rfl⟩ := hI
  refine seq_by (fun δ => δ = [some (.raw raw), some .drw, some (.d (.str kd)), some (.d (.int w)), some (.d (.list [.str "ult", .str "slt", .str "eq", .str "ne", .str "ule", .str "ugt", .str "uge", .str "sle", .str "sgt", .str "sge"])), some (.d (.str p)), some (.d (.list (nl xs))), some (.d (.list (nl ys))), some (.d (rg a)), some (.d (rg b)), some (.d (oD (dec p w a b))), none, none, none, none, none]) (fun δ hI => ?_) (fun N hN => ?_)
  rotate_left
  · simp
    exact ⟨p, kd, w, a, b, rfl, hp, rank_lt p, hk, h1, h2, hN _ rfl⟩
  subst hI
  refine seq_by (fun δ => δ = [some (.raw raw), some .drw, some (.d (.str kd)), some (.d (.int w)), some (.d (.list [.str "ult", .str "slt", .str "eq", .str "ne", .str "ule", .str "ugt", .str "uge", .str "sle", .str "sgt", .str "sge"])), some (.d (.str p)), some (.d (.list (nl xs))), some (.d (.list (nl ys))), some (.d (rg a)), some (.d (rg b)), some (.d (oD (dec p w a b))), some (.d .none), none, none, none, none]) (fun δ hI => ?_) (fun N hN => ?_)
  rotate_left
  · simp
    exact hN _ rfl
  subst hI
  have da := dis_of (ma _ (List.getElem_mem x0))
  have db := dis_of (mb _ (List.getElem_mem y0))
  refine seq_by (fun δ => δ = [some (.raw raw), some .drw, some (.d (.str kd)), some (.d (.int w)), some (.d (.list [.str "ult", .str "slt", .str "eq", .str "ne", .str "ule", .str "ugt", .str "uge", .str "sle", .str "sgt", .str "sge"])), some (.d (.str p)), some (.d (.list (nl xs))), some (.d (.list (nl ys))), some (.d (rg a)), some (.d (rg b)), some (.d (oD (dec p w a b))), some (.d (oD (dec p w a b))), none, none, none, none]) (fun δ hI => ?_) (fun N hN => ?_)
  rotate_left
  · simp
    by_cases e1 : p = Str.ofString "eq"
    · refine ite_t e1 ⟨a, b, rfl, ?_⟩
      rw [← show dec p w a b = eqR a b by simp [dec, e1]]
      exact hN _ rfl
    refine ite_f e1 ?_
    by_cases e2 : p = Str.ofString "ne"
    · refine ite_t e2 ⟨a, b, rfl, eqR a b, rfl, ?_⟩
      rw [← show dec p w a b = (eqR a b).map not by simp [dec, e2]]
      exact hN _ rfl
    refine ite_f e2 ⟨p, w, a, b, rfl, hp, e1, e2, h1, h2, da, db, hN _ rfl⟩
  subst hI
  cases hd : dec p w a b with
  | none => simp [oD]
  | some c =>
    have sound := fun x y hx hy => dec_sound (x := x) (y := y) hp h1 (xw x hx) (yw y hy) (ma x hx) (mb y hy) hd
    rw [show oD (some c) = .int (b2i c) from rfl]
    simp
    refine ⟨_, rfl, rfl, ?_⟩
    simp only [dFor]
    refine ⟨_, rfl, nl xs, rfl, fun _ δ => ∃ y12 y13, δ = [some (.raw raw), some .drw, some (.d (.str kd)), some (.d (.int w)), some (.d (.list [.str "ult", .str "slt", .str "eq", .str "ne", .str "ule", .str "ugt", .str "uge", .str "sle", .str "sgt", .str "sge"])), some (.d (.str p)), some (.d (.list (nl xs))), some (.d (.list (nl ys))), some (.d (rg a)), some (.d (rg b)), some (.d (.int (b2i c))), some (.d (.int (b2i c))), y12, y13, none, none], ⟨none, none, rfl⟩, fun k z δ hk hI => ?_, fun δ hI => ?_⟩
    · obtain ⟨y12, y13, rfl⟩ := hI
      obtain ⟨v, hv, rfl⟩ := nl_at hk
      refine ⟨_, rfl, nl ys, rfl, fun _ δ => ∃ y13, δ = [some (.raw raw), some .drw, some (.d (.str kd)), some (.d (.int w)), some (.d (.list [.str "ult", .str "slt", .str "eq", .str "ne", .str "ule", .str "ugt", .str "uge", .str "sle", .str "sgt", .str "sge"])), some (.d (.str p)), some (.d (.list (nl xs))), some (.d (.list (nl ys))), some (.d (rg a)), some (.d (rg b)), some (.d (.int (b2i c))), some (.d (.int (b2i c))), some (.d (.int v)), y13, none, none], ⟨_, rfl⟩, fun k2 z2 δ hk2 hI2 => ?_, fun δ hI2 => ?_⟩
      · obtain ⟨y13, rfl⟩ := hI2
        obtain ⟨u, hu, rfl⟩ := nl_at hk2
        simp
        refine ⟨p, w, v, u, rfl, hp, h1, h2, ?_⟩
        rw [sound v u hv hu]
        simp
      · obtain ⟨y13, rfl⟩ := hI2
        exact ⟨_, _, rfl⟩
    · obtain ⟨y12, y13, rfl⟩ := hI
      simp

end
theorem all_mk {l : PySem.W.OpenLaw} {w : World} {K : PySem.W.Frag} {h : Heap} {mg : Str → Option Value} {fa : Addr} (X : K.In h) (G : h.Ns mainGlobals mg) (hfa : mg "law" = some (.ref fa))
    {f0 : Addr} {od0 an0 : Option Addr} {sl0 : Array (Option Value)} {oc0 kV0 dc0 pm0 cd0 ct0 : Value}
    {f1 : Addr} {od1 an1 : Option Addr} {sl1 : Array (Option Value)} {oc1 kV1 dc1 pm1 cd1 ct1 : Value}
    {f2 : Addr} {od2 an2 : Option Addr} {sl2 : Array (Option Value)} {oc2 kV2 dc2 pm2 cd2 ct2 : Value}
    {f3 : Addr} {od3 an3 : Option Addr} {sl3 : Array (Option Value)} {oc3 kV3 dc3 pm3 cd3 ct3 : Value}
    {f4 : Addr} {od4 an4 : Option Addr} {sl4 : Array (Option Value)} {oc4 kV4 dc4 pm4 cd4 ct4 : Value}
    {f5 : Addr} {od5 an5 : Option Addr} {sl5 : Array (Option Value)} {oc5 kV5 dc5 pm5 cd5 ct5 : Value}
    {f6 : Addr} {od6 an6 : Option Addr} {sl6 : Array (Option Value)} {oc6 kV6 dc6 pm6 cd6 ct6 : Value}
    {f7 : Addr} {od7 an7 : Option Addr} {sl7 : Array (Option Value)} {oc7 kV7 dc7 pm7 cd7 ct7 : Value}
    {f8 : Addr} {od8 an8 : Option Addr} {sl8 : Array (Option Value)} {oc8 kV8 dc8 pm8 cd8 ct8 : Value}
    {f9 : Addr} {od9 an9 : Option Addr} {sl9 : Array (Option Value)} {oc9 kV9 dc9 pm9 cd9 ct9 : Value}
    {f10 : Addr} {od10 an10 : Option Addr} {sl10 : Array (Option Value)} {oc10 kV10 dc10 pm10 cd10 ct10 : Value}
    {f11 : Addr} {od11 an11 : Option Addr} {sl11 : Array (Option Value)} {oc11 kV11 dc11 pm11 cd11 ct11 : Value}
    {f12 : Addr} {od12 an12 : Option Addr} {sl12 : Array (Option Value)} {oc12 kV12 dc12 pm12 cd12 ct12 : Value}
    {f13 : Addr} {od13 an13 : Option Addr} {sl13 : Array (Option Value)} {oc13 kV13 dc13 pm13 cd13 ct13 : Value}
    {f14 : Addr} {od14 an14 : Option Addr} {sl14 : Array (Option Value)} {oc14 kV14 dc14 pm14 cd14 ct14 : Value}
    {f15 : Addr} {od15 an15 : Option Addr} {sl15 : Array (Option Value)} {oc15 kV15 dc15 pm15 cd15 ct15 : Value}
    {f16 : Addr} {od16 an16 : Option Addr} {sl16 : Array (Option Value)} {oc16 kV16 dc16 pm16 cd16 ct16 : Value}
    {f17 : Addr} {od17 an17 : Option Addr} {sl17 : Array (Option Value)} {oc17 kV17 dc17 pm17 cd17 ct17 : Value}
    {f18 : Addr} {od18 an18 : Option Addr} {sl18 : Array (Option Value)} {oc18 kV18 dc18 pm18 cd18 ct18 : Value}
    {f19 : Addr} {od19 an19 : Option Addr} {sl19 : Array (Option Value)} {oc19 kV19 dc19 pm19 cd19 ct19 : Value}
    {f20 : Addr} {od20 an20 : Option Addr} {sl20 : Array (Option Value)} {oc20 kV20 dc20 pm20 cd20 ct20 : Value}
    {f21 : Addr} {od21 an21 : Option Addr} {sl21 : Array (Option Value)} {oc21 kV21 dc21 pm21 cd21 ct21 : Value}
    (a0 : PySem.W.nsIn K mainGlobals "width" = some (some (.ref f0))) (l0 : K.lookup f0 = some ⟨oc0, od0, .func (PySem.W.fnOf "width" "width" (defArgs swidth) (defBody swidth) (defScope swidth) .none kV0 dc0 pm0 an0 cd0 ct0), sl0⟩) (c0 : PySem.W.codeIn K cd0 "width" = true) (k0 : PySem.W.keepIn K (.ref f0) = true)
    (a1 : PySem.W.nsIn K mainGlobals "opposite" = some (some (.ref f1))) (l1 : K.lookup f1 = some ⟨oc1, od1, .func (PySem.W.fnOf "opposite" "opposite" (defArgs sopposite) (defBody sopposite) (defScope sopposite) .none kV1 dc1 pm1 an1 cd1 ct1), sl1⟩) (c1 : PySem.W.codeIn K cd1 "opposite" = true) (k1 : PySem.W.keepIn K (.ref f1) = true)
    (a2 : PySem.W.nsIn K mainGlobals "swapped" = some (some (.ref f2))) (l2 : K.lookup f2 = some ⟨oc2, od2, .func (PySem.W.fnOf "swapped" "swapped" (defArgs sswapped) (defBody sswapped) (defScope sswapped) .none kV2 dc2 pm2 an2 cd2 ct2), sl2⟩) (c2 : PySem.W.codeIn K cd2 "swapped" = true) (k2 : PySem.W.keepIn K (.ref f2) = true)
    (a3 : PySem.W.nsIn K mainGlobals "half_of" = some (some (.ref f3))) (l3 : K.lookup f3 = some ⟨oc3, od3, .func (PySem.W.fnOf "half_of" "half_of" (defArgs shalf_of) (defBody shalf_of) (defScope shalf_of) .none kV3 dc3 pm3 an3 cd3 ct3), sl3⟩) (c3 : PySem.W.codeIn K cd3 "half_of" = true) (k3 : PySem.W.keepIn K (.ref f3) = true)
    (a4 : PySem.W.nsIn K mainGlobals "is_single" = some (some (.ref f4))) (l4 : K.lookup f4 = some ⟨oc4, od4, .func (PySem.W.fnOf "is_single" "is_single" (defArgs sis_single) (defBody sis_single) (defScope sis_single) .none kV4 dc4 pm4 an4 cd4 ct4), sl4⟩) (c4 : PySem.W.codeIn K cd4 "is_single" = true) (k4 : PySem.W.keepIn K (.ref f4) = true)
    (a5 : PySem.W.nsIn K mainGlobals "decide" = some (some (.ref f5))) (l5 : K.lookup f5 = some ⟨oc5, od5, .func (PySem.W.fnOf "decide" "decide" (defArgs sdecide) (defBody sdecide) (defScope sdecide) .none kV5 dc5 pm5 an5 cd5 ct5), sl5⟩) (c5 : PySem.W.codeIn K cd5 "decide" = true) (k5 : PySem.W.keepIn K (.ref f5) = true)
    (a6 : PySem.W.nsIn K mainGlobals "_equal" = some (some (.ref f6))) (l6 : K.lookup f6 = some ⟨oc6, od6, .func (PySem.W.fnOf "_equal" "_equal" (defArgs s_equal) (defBody s_equal) (defScope s_equal) .none kV6 dc6 pm6 an6 cd6 ct6), sl6⟩) (c6 : PySem.W.codeIn K cd6 "_equal" = true) (k6 : PySem.W.keepIn K (.ref f6) = true)
    (a7 : PySem.W.nsIn K mainGlobals "_less" = some (some (.ref f7))) (l7 : K.lookup f7 = some ⟨oc7, od7, .func (PySem.W.fnOf "_less" "_less" (defArgs s_less) (defBody s_less) (defScope s_less) .none kV7 dc7 pm7 an7 cd7 ct7), sl7⟩) (c7 : PySem.W.codeIn K cd7 "_less" = true) (k7 : PySem.W.keepIn K (.ref f7) = true)
    (a8 : PySem.W.nsIn K mainGlobals "_law_draw" = some (some (.ref f8))) (l8 : K.lookup f8 = some ⟨oc8, od8, .func (PySem.W.fnOf "_law_draw" "_law_draw" (defArgs s_law_draw) (defBody s_law_draw) (defScope s_law_draw) .none kV8 dc8 pm8 an8 cd8 ct8), sl8⟩) (c8 : PySem.W.codeIn K cd8 "_law_draw" = true) (k8 : PySem.W.keepIn K (.ref f8) = true)
    (a9 : PySem.W.nsIn K mainGlobals "_law_take" = some (some (.ref f9))) (l9 : K.lookup f9 = some ⟨oc9, od9, .func (PySem.W.fnOf "_law_take" "_law_take" (defArgs s_law_take) (defBody s_law_take) (defScope s_law_take) .none kV9 dc9 pm9 an9 cd9 ct9), sl9⟩) (c9 : PySem.W.codeIn K cd9 "_law_take" = true) (k9 : PySem.W.keepIn K (.ref f9) = true)
    (a10 : PySem.W.nsIn K mainGlobals "_law_whole" = some (some (.ref f10))) (l10 : K.lookup f10 = some ⟨oc10, od10, .func (PySem.W.fnOf "_law_whole" "_law_whole" (defArgs s_law_whole) (defBody s_law_whole) (defScope s_law_whole) .none kV10 dc10 pm10 an10 cd10 ct10), sl10⟩) (c10 : PySem.W.codeIn K cd10 "_law_whole" = true) (k10 : PySem.W.keepIn K (.ref f10) = true)
    (a11 : PySem.W.nsIn K mainGlobals "_law_width" = some (some (.ref f11))) (l11 : K.lookup f11 = some ⟨oc11, od11, .func (PySem.W.fnOf "_law_width" "_law_width" (defArgs s_law_width) (defBody s_law_width) (defScope s_law_width) .none kV11 dc11 pm11 an11 cd11 ct11), sl11⟩) (c11 : PySem.W.codeIn K cd11 "_law_width" = true) (k11 : PySem.W.keepIn K (.ref f11) = true)
    (a12 : PySem.W.nsIn K mainGlobals "_law_number" = some (some (.ref f12))) (l12 : K.lookup f12 = some ⟨oc12, od12, .func (PySem.W.fnOf "_law_number" "_law_number" (defArgs s_law_number) (defBody s_law_number) (defScope s_law_number) .none kV12 dc12 pm12 an12 cd12 ct12), sl12⟩) (c12 : PySem.W.codeIn K cd12 "_law_number" = true) (k12 : PySem.W.keepIn K (.ref f12) = true)
    (a13 : PySem.W.nsIn K mainGlobals "_law_signed" = some (some (.ref f13))) (l13 : K.lookup f13 = some ⟨oc13, od13, .func (PySem.W.fnOf "_law_signed" "_law_signed" (defArgs s_law_signed) (defBody s_law_signed) (defScope s_law_signed) .none kV13 dc13 pm13 an13 cd13 ct13), sl13⟩) (c13 : PySem.W.codeIn K cd13 "_law_signed" = true) (k13 : PySem.W.keepIn K (.ref f13) = true)
    (a14 : PySem.W.nsIn K mainGlobals "_law_compare" = some (some (.ref f14))) (l14 : K.lookup f14 = some ⟨oc14, od14, .func (PySem.W.fnOf "_law_compare" "_law_compare" (defArgs s_law_compare) (defBody s_law_compare) (defScope s_law_compare) .none kV14 dc14 pm14 an14 cd14 ct14), sl14⟩) (c14 : PySem.W.codeIn K cd14 "_law_compare" = true) (k14 : PySem.W.keepIn K (.ref f14) = true)
    (a15 : PySem.W.nsIn K mainGlobals "_law_tight" = some (some (.ref f15))) (l15 : K.lookup f15 = some ⟨oc15, od15, .func (PySem.W.fnOf "_law_tight" "_law_tight" (defArgs s_law_tight) (defBody s_law_tight) (defScope s_law_tight) .none kV15 dc15 pm15 an15 cd15 ct15), sl15⟩) (c15 : PySem.W.codeIn K cd15 "_law_tight" = true) (k15 : PySem.W.keepIn K (.ref f15) = true)
    (a16 : PySem.W.nsIn K mainGlobals "_law_loose" = some (some (.ref f16))) (l16 : K.lookup f16 = some ⟨oc16, od16, .func (PySem.W.fnOf "_law_loose" "_law_loose" (defArgs s_law_loose) (defBody s_law_loose) (defScope s_law_loose) .none kV16 dc16 pm16 an16 cd16 ct16), sl16⟩) (c16 : PySem.W.codeIn K cd16 "_law_loose" = true) (k16 : PySem.W.keepIn K (.ref f16) = true)
    (a17 : PySem.W.nsIn K mainGlobals "_law_below" = some (some (.ref f17))) (l17 : K.lookup f17 = some ⟨oc17, od17, .func (PySem.W.fnOf "_law_below" "_law_below" (defArgs s_law_below) (defBody s_law_below) (defScope s_law_below) .none kV17 dc17 pm17 an17 cd17 ct17), sl17⟩) (c17 : PySem.W.codeIn K cd17 "_law_below" = true) (k17 : PySem.W.keepIn K (.ref f17) = true)
    (a18 : PySem.W.nsIn K mainGlobals "_law_opposite" = some (some (.ref f18))) (l18 : K.lookup f18 = some ⟨oc18, od18, .func (PySem.W.fnOf "_law_opposite" "_law_opposite" (defArgs s_law_opposite) (defBody s_law_opposite) (defScope s_law_opposite) .none kV18 dc18 pm18 an18 cd18 ct18), sl18⟩) (c18 : PySem.W.codeIn K cd18 "_law_opposite" = true) (k18 : PySem.W.keepIn K (.ref f18) = true)
    (a19 : PySem.W.nsIn K mainGlobals "_law_equal" = some (some (.ref f19))) (l19 : K.lookup f19 = some ⟨oc19, od19, .func (PySem.W.fnOf "_law_equal" "_law_equal" (defArgs s_law_equal) (defBody s_law_equal) (defScope s_law_equal) .none kV19 dc19 pm19 an19 cd19 ct19), sl19⟩) (c19 : PySem.W.codeIn K cd19 "_law_equal" = true) (k19 : PySem.W.keepIn K (.ref f19) = true)
    (a20 : PySem.W.nsIn K mainGlobals "_law_order" = some (some (.ref f20))) (l20 : K.lookup f20 = some ⟨oc20, od20, .func (PySem.W.fnOf "_law_order" "_law_order" (defArgs s_law_order) (defBody s_law_order) (defScope s_law_order) .none kV20 dc20 pm20 an20 cd20 ct20), sl20⟩) (c20 : PySem.W.codeIn K cd20 "_law_order" = true) (k20 : PySem.W.keepIn K (.ref f20) = true)
    (a21 : PySem.W.nsIn K mainGlobals "law" = some (some (.ref f21))) (l21 : K.lookup f21 = some ⟨oc21, od21, .func (PySem.W.fnOf "law" "law" (defArgs slaw) (defBody slaw) (defScope slaw) .none kV21 dc21 pm21 an21 cd21 ct21), sl21⟩) (c21 : PySem.W.codeIn K cd21 "law" = true) (k21 : PySem.W.keepIn K (.ref f21) = true)
    (z_int : PySem.W.nsIn K mainGlobals "int" = some none)
    (z_abs : PySem.W.nsIn K mainGlobals "abs" = some none)
    (z_len : PySem.W.nsIn K mainGlobals "len" = some none)
    (z_isinstance : PySem.W.nsIn K mainGlobals "isinstance" = some none)
    (z_bool : PySem.W.nsIn K mainGlobals "bool" = some none)
    (z_range : PySem.W.nsIn K mainGlobals "range" = some none)
    (z_min : PySem.W.nsIn K mainGlobals "min" = some none)
    (z_max : PySem.W.nsIn K mainGlobals "max" = some none)
    {ad__WIDTHS : Addr} {es__WIDTHS : Array DictEntry} {n__WIDTHS : Nat} (ac__WIDTHS : PySem.W.nsIn K mainGlobals "_WIDTHS" = some (some (.ref ad__WIDTHS))) (al__WIDTHS : K.lookup ad__WIDTHS = some ⟨.type "dict", none, .dict es__WIDTHS n__WIDTHS, #[]⟩) (ak__WIDTHS : PySem.W.KeysLit w.params es__WIDTHS.toList)
    {t__WIDTHS_0 : Tok} (ae__WIDTHS_0 : PySem.W.nsIn K ad__WIDTHS "i1" = some (some (.int 1 t__WIDTHS_0)))
    {t__WIDTHS_1 : Tok} (ae__WIDTHS_1 : PySem.W.nsIn K ad__WIDTHS "i8" = some (some (.int 8 t__WIDTHS_1)))
    {t__WIDTHS_2 : Tok} (ae__WIDTHS_2 : PySem.W.nsIn K ad__WIDTHS "i16" = some (some (.int 16 t__WIDTHS_2)))
    {t__WIDTHS_3 : Tok} (ae__WIDTHS_3 : PySem.W.nsIn K ad__WIDTHS "i32" = some (some (.int 32 t__WIDTHS_3)))
    {t__WIDTHS_4 : Tok} (ae__WIDTHS_4 : PySem.W.nsIn K ad__WIDTHS "i64" = some (some (.int 64 t__WIDTHS_4)))
    {ad__OPPOSITES : Addr} {es__OPPOSITES : Array DictEntry} {n__OPPOSITES : Nat} (ac__OPPOSITES : PySem.W.nsIn K mainGlobals "_OPPOSITES" = some (some (.ref ad__OPPOSITES))) (al__OPPOSITES : K.lookup ad__OPPOSITES = some ⟨.type "dict", none, .dict es__OPPOSITES n__OPPOSITES, #[]⟩) (ak__OPPOSITES : PySem.W.KeysLit w.params es__OPPOSITES.toList)
    {t__OPPOSITES_0 : Tok} (ae__OPPOSITES_0 : PySem.W.nsIn K ad__OPPOSITES "eq" = some (some (.str "ne" t__OPPOSITES_0)))
    {t__OPPOSITES_1 : Tok} (ae__OPPOSITES_1 : PySem.W.nsIn K ad__OPPOSITES "ne" = some (some (.str "eq" t__OPPOSITES_1)))
    {t__OPPOSITES_2 : Tok} (ae__OPPOSITES_2 : PySem.W.nsIn K ad__OPPOSITES "ult" = some (some (.str "uge" t__OPPOSITES_2)))
    {t__OPPOSITES_3 : Tok} (ae__OPPOSITES_3 : PySem.W.nsIn K ad__OPPOSITES "uge" = some (some (.str "ult" t__OPPOSITES_3)))
    {t__OPPOSITES_4 : Tok} (ae__OPPOSITES_4 : PySem.W.nsIn K ad__OPPOSITES "ule" = some (some (.str "ugt" t__OPPOSITES_4)))
    {t__OPPOSITES_5 : Tok} (ae__OPPOSITES_5 : PySem.W.nsIn K ad__OPPOSITES "ugt" = some (some (.str "ule" t__OPPOSITES_5)))
    {t__OPPOSITES_6 : Tok} (ae__OPPOSITES_6 : PySem.W.nsIn K ad__OPPOSITES "slt" = some (some (.str "sge" t__OPPOSITES_6)))
    {t__OPPOSITES_7 : Tok} (ae__OPPOSITES_7 : PySem.W.nsIn K ad__OPPOSITES "sge" = some (some (.str "slt" t__OPPOSITES_7)))
    {t__OPPOSITES_8 : Tok} (ae__OPPOSITES_8 : PySem.W.nsIn K ad__OPPOSITES "sle" = some (some (.str "sgt" t__OPPOSITES_8)))
    {t__OPPOSITES_9 : Tok} (ae__OPPOSITES_9 : PySem.W.nsIn K ad__OPPOSITES "sgt" = some (some (.str "sle" t__OPPOSITES_9)))
    {ad__SWAPPED : Addr} {es__SWAPPED : Array DictEntry} {n__SWAPPED : Nat} (ac__SWAPPED : PySem.W.nsIn K mainGlobals "_SWAPPED" = some (some (.ref ad__SWAPPED))) (al__SWAPPED : K.lookup ad__SWAPPED = some ⟨.type "dict", none, .dict es__SWAPPED n__SWAPPED, #[]⟩) (ak__SWAPPED : PySem.W.KeysLit w.params es__SWAPPED.toList)
    {t__SWAPPED_0 : Tok} (ae__SWAPPED_0 : PySem.W.nsIn K ad__SWAPPED "eq" = some (some (.str "eq" t__SWAPPED_0)))
    {t__SWAPPED_1 : Tok} (ae__SWAPPED_1 : PySem.W.nsIn K ad__SWAPPED "ne" = some (some (.str "ne" t__SWAPPED_1)))
    {t__SWAPPED_2 : Tok} (ae__SWAPPED_2 : PySem.W.nsIn K ad__SWAPPED "ult" = some (some (.str "ugt" t__SWAPPED_2)))
    {t__SWAPPED_3 : Tok} (ae__SWAPPED_3 : PySem.W.nsIn K ad__SWAPPED "ugt" = some (some (.str "ult" t__SWAPPED_3)))
    {t__SWAPPED_4 : Tok} (ae__SWAPPED_4 : PySem.W.nsIn K ad__SWAPPED "ule" = some (some (.str "uge" t__SWAPPED_4)))
    {t__SWAPPED_5 : Tok} (ae__SWAPPED_5 : PySem.W.nsIn K ad__SWAPPED "uge" = some (some (.str "ule" t__SWAPPED_5)))
    {t__SWAPPED_6 : Tok} (ae__SWAPPED_6 : PySem.W.nsIn K ad__SWAPPED "slt" = some (some (.str "sgt" t__SWAPPED_6)))
    {t__SWAPPED_7 : Tok} (ae__SWAPPED_7 : PySem.W.nsIn K ad__SWAPPED "sgt" = some (some (.str "slt" t__SWAPPED_7)))
    {t__SWAPPED_8 : Tok} (ae__SWAPPED_8 : PySem.W.nsIn K ad__SWAPPED "sle" = some (some (.str "sge" t__SWAPPED_8)))
    {t__SWAPPED_9 : Tok} (ae__SWAPPED_9 : PySem.W.nsIn K ad__SWAPPED "sge" = some (some (.str "sle" t__SWAPPED_9)))
    : ∃ fd : FuncData, (∀ (s : Shared) (v : Value), BindsTo s fd ⟨[v], []⟩ [("script", v)]) ∧ ∀ base : Heap, K.In base → base.Ns mainGlobals mg → FnOk l.prog w K mg base CX0 10 fa fd ["script"] (spLaw K) := by
  have e := hfa.symm.trans (PySem.W.mg_of X G a21)
  cases e
  have F0 := fun_mk (st := swidth) l0 c0 k0
  have b0 := F0.binds (ps := ["kind"]) fun _ _ _ _ _ _ us hl => match us, hl with | [_], _ => rfl
  have F1 := fun_mk (st := sopposite) l1 c1 k1
  have b1 := F1.binds (ps := ["predicate"]) fun _ _ _ _ _ _ us hl => match us, hl with | [_], _ => rfl
  have F2 := fun_mk (st := sswapped) l2 c2 k2
  have b2 := F2.binds (ps := ["predicate"]) fun _ _ _ _ _ _ us hl => match us, hl with | [_], _ => rfl
  have F3 := fun_mk (st := shalf_of) l3 c3 k3
  have b3 := F3.binds (ps := ["kind"]) fun _ _ _ _ _ _ us hl => match us, hl with | [_], _ => rfl
  have F4 := fun_mk (st := sis_single) l4 c4 k4
  have b4 := F4.binds (ps := ["bounds"]) fun _ _ _ _ _ _ us hl => match us, hl with | [_], _ => rfl
  have F5 := fun_mk (st := sdecide) l5 c5 k5
  have b5 := F5.binds (ps := ["predicate", "kind", "a", "b"]) fun _ _ _ _ _ _ us hl => match us, hl with | [_, _, _, _], _ => rfl
  have F6 := fun_mk (st := s_equal) l6 c6 k6
  have b6 := F6.binds (ps := ["a", "b"]) fun _ _ _ _ _ _ us hl => match us, hl with | [_, _], _ => rfl
  have F7 := fun_mk (st := s_less) l7 c7 k7
  have b7 := F7.binds (ps := ["predicate", "kind", "a", "b"]) fun _ _ _ _ _ _ us hl => match us, hl with | [_, _, _, _], _ => rfl
  have F8 := fun_mk (st := s_law_draw) l8 c8 k8
  have b8 := F8.binds (ps := ["script"]) fun _ _ _ _ _ _ us hl => match us, hl with | [_], _ => rfl
  have F9 := fun_mk (st := s_law_take) l9 c9 k9
  have b9 := F9.binds (ps := ["draw", "many"]) fun _ _ _ _ _ _ us hl => match us, hl with | [_, _], _ => rfl
  have F10 := fun_mk (st := s_law_whole) l10 c10 k10
  have b10 := F10.binds (ps := ["value"]) fun _ _ _ _ _ _ us hl => match us, hl with | [_], _ => rfl
  have F11 := fun_mk (st := s_law_width) l11 c11 k11
  have b11 := F11.binds (ps := ["kind"]) fun _ _ _ _ _ _ us hl => match us, hl with | [_], _ => rfl
  have F12 := fun_mk (st := s_law_number) l12 c12 k12
  have b12 := F12.binds (ps := ["draw", "w"]) fun _ _ _ _ _ _ us hl => match us, hl with | [_, _], _ => rfl
  have F13 := fun_mk (st := s_law_signed) l13 c13 k13
  have b13 := F13.binds (ps := ["w", "x"]) fun _ _ _ _ _ _ us hl => match us, hl with | [_, _], _ => rfl
  have F14 := fun_mk (st := s_law_compare) l14 c14 k14
  have b14 := F14.binds (ps := ["predicate", "w", "x", "y"]) fun _ _ _ _ _ _ us hl => match us, hl with | [_, _, _, _], _ => rfl
  have F15 := fun_mk (st := s_law_tight) l15 c15 k15
  have b15 := F15.binds (ps := ["values", "w"]) fun _ _ _ _ _ _ us hl => match us, hl with | [_, _], _ => rfl
  have F16 := fun_mk (st := s_law_loose) l16 c16 k16
  have b16 := F16.binds (ps := ["draw", "bounds", "w"]) fun _ _ _ _ _ _ us hl => match us, hl with | [_, _, _], _ => rfl
  have F17 := fun_mk (st := s_law_below) l17 c17 k17
  have b17 := F17.binds (ps := ["a", "b"]) fun _ _ _ _ _ _ us hl => match us, hl with | [_, _], _ => rfl
  have F18 := fun_mk (st := s_law_opposite) l18 c18 k18
  have b18 := F18.binds (ps := ["answer"]) fun _ _ _ _ _ _ us hl => match us, hl with | [_], _ => rfl
  have F19 := fun_mk (st := s_law_equal) l19 c19 k19
  have b19 := F19.binds (ps := ["a", "b"]) fun _ _ _ _ _ _ us hl => match us, hl with | [_, _], _ => rfl
  have F20 := fun_mk (st := s_law_order) l20 c20 k20
  have b20 := F20.binds (ps := ["predicate", "w", "a", "b"]) fun _ _ _ _ _ _ us hl => match us, hl with | [_, _, _, _], _ => rfl
  have F21 := fun_mk (st := slaw) l21 c21 k21
  have b21 := F21.binds (ps := ["script"]) fun _ _ _ _ _ _ us hl => match us, hl with | [_], _ => rfl
  exact ⟨PySem.W.fnOf "law" "law" (defArgs slaw) (defBody slaw) (defScope slaw) .none kV21 dc21 pm21 an21 cd21 ct21, fun s v => .of_eq rfl, fun base _ _ => ok_law ⟨f0, _, F0, PySem.W.mg_of X G a0, b0, f1, _, F1, PySem.W.mg_of X G a1, b1, f2, _, F2, PySem.W.mg_of X G a2, b2, f3, _, F3, PySem.W.mg_of X G a3, b3, f4, _, F4, PySem.W.mg_of X G a4, b4, f5, _, F5, PySem.W.mg_of X G a5, b5, f6, _, F6, PySem.W.mg_of X G a6, b6, f7, _, F7, PySem.W.mg_of X G a7, b7, f8, _, F8, PySem.W.mg_of X G a8, b8, f9, _, F9, PySem.W.mg_of X G a9, b9, f10, _, F10, PySem.W.mg_of X G a10, b10, f11, _, F11, PySem.W.mg_of X G a11, b11, f12, _, F12, PySem.W.mg_of X G a12, b12, f13, _, F13, PySem.W.mg_of X G a13, b13, f14, _, F14, PySem.W.mg_of X G a14, b14, f15, _, F15, PySem.W.mg_of X G a15, b15, f16, _, F16, PySem.W.mg_of X G a16, b16, f17, _, F17, PySem.W.mg_of X G a17, b17, f18, _, F18, PySem.W.mg_of X G a18, b18, f19, _, F19, PySem.W.mg_of X G a19, b19, f20, _, F20, PySem.W.mg_of X G a20, b20, fa, _, F21, PySem.W.mg_of X G a21, b21, PySem.W.mg_none_of X G z_int, PySem.W.mg_none_of X G z_abs, PySem.W.mg_none_of X G z_len, PySem.W.mg_none_of X G z_isinstance, PySem.W.mg_none_of X G z_bool, PySem.W.mg_none_of X G z_range, PySem.W.mg_none_of X G z_min, PySem.W.mg_none_of X G z_max, ad__WIDTHS, PySem.W.mg_of X G ac__WIDTHS, (KdL.cons (kd_i al__WIDTHS ak__WIDTHS ae__WIDTHS_0) rfl (KdL.cons (kd_i al__WIDTHS ak__WIDTHS ae__WIDTHS_1) rfl (KdL.cons (kd_i al__WIDTHS ak__WIDTHS ae__WIDTHS_2) rfl (KdL.cons (kd_i al__WIDTHS ak__WIDTHS ae__WIDTHS_3) rfl (KdL.cons (kd_i al__WIDTHS ak__WIDTHS ae__WIDTHS_4) rfl KdL.nil))))), ad__OPPOSITES, PySem.W.mg_of X G ac__OPPOSITES, (KdL.cons (kd_s al__OPPOSITES ak__OPPOSITES ae__OPPOSITES_0) rfl (KdL.cons (kd_s al__OPPOSITES ak__OPPOSITES ae__OPPOSITES_1) rfl (KdL.cons (kd_s al__OPPOSITES ak__OPPOSITES ae__OPPOSITES_2) rfl (KdL.cons (kd_s al__OPPOSITES ak__OPPOSITES ae__OPPOSITES_3) rfl (KdL.cons (kd_s al__OPPOSITES ak__OPPOSITES ae__OPPOSITES_4) rfl (KdL.cons (kd_s al__OPPOSITES ak__OPPOSITES ae__OPPOSITES_5) rfl (KdL.cons (kd_s al__OPPOSITES ak__OPPOSITES ae__OPPOSITES_6) rfl (KdL.cons (kd_s al__OPPOSITES ak__OPPOSITES ae__OPPOSITES_7) rfl (KdL.cons (kd_s al__OPPOSITES ak__OPPOSITES ae__OPPOSITES_8) rfl (KdL.cons (kd_s al__OPPOSITES ak__OPPOSITES ae__OPPOSITES_9) rfl KdL.nil)))))))))), ad__SWAPPED, PySem.W.mg_of X G ac__SWAPPED, (KdL.cons (kd_s al__SWAPPED ak__SWAPPED ae__SWAPPED_0) rfl (KdL.cons (kd_s al__SWAPPED ak__SWAPPED ae__SWAPPED_1) rfl (KdL.cons (kd_s al__SWAPPED ak__SWAPPED ae__SWAPPED_2) rfl (KdL.cons (kd_s al__SWAPPED ak__SWAPPED ae__SWAPPED_3) rfl (KdL.cons (kd_s al__SWAPPED ak__SWAPPED ae__SWAPPED_4) rfl (KdL.cons (kd_s al__SWAPPED ak__SWAPPED ae__SWAPPED_5) rfl (KdL.cons (kd_s al__SWAPPED ak__SWAPPED ae__SWAPPED_6) rfl (KdL.cons (kd_s al__SWAPPED ak__SWAPPED ae__SWAPPED_7) rfl (KdL.cons (kd_s al__SWAPPED ak__SWAPPED ae__SWAPPED_8) rfl (KdL.cons (kd_s al__SWAPPED ak__SWAPPED ae__SWAPPED_9) rfl KdL.nil))))))))))⟩⟩
end Toy
open PySem PySem.W PyProof.Rows
set_option maxRecDepth 100000 in
set_option maxHeartbeats 0 in
theorem PySem.Challenge.cw_burnish_k33_decide_comparisons_holds : PySem.Challenge.rw_burnish_k33_decide_comparisons.Holds := by
  w_on; o_law; k_head; (case hw => w_witness2)
  k_fill
  refine L2.walk_of (l := PySem.Challenge.rw_burnish_k33_decide_comparisons) (n := 63) (k := 10) (x := "script") (CX := fun _ => L2.CX0) (sp := fun w => VL.spLaw _) rfl (by decide) rfl ⟨rfl, by decide, by decide⟩ (fun w h Y => PySem.W.kIn_of Y) ?F (fun _ _ a ns hl _ hS => ⟨a, ns, rfl, hS, hl, fun _ => rfl⟩) (fun _ _ _ _ _ h => h)
  case F =>
    intro w mg fa h KX G hmg
    refine' Toy.all_mk KX G hmg ?a0 ?l0 ?c0 ?k0 ?a1 ?l1 ?c1 ?k1 ?a2 ?l2 ?c2 ?k2 ?a3 ?l3 ?c3 ?k3 ?a4 ?l4 ?c4 ?k4 ?a5 ?l5 ?c5 ?k5 ?a6 ?l6 ?c6 ?k6 ?a7 ?l7 ?c7 ?k7 ?a8 ?l8 ?c8 ?k8 ?a9 ?l9 ?c9 ?k9 ?a10 ?l10 ?c10 ?k10 ?a11 ?l11 ?c11 ?k11 ?a12 ?l12 ?c12 ?k12 ?a13 ?l13 ?c13 ?k13 ?a14 ?l14 ?c14 ?k14 ?a15 ?l15 ?c15 ?k15 ?a16 ?l16 ?c16 ?k16 ?a17 ?l17 ?c17 ?k17 ?a18 ?l18 ?c18 ?k18 ?a19 ?l19 ?c19 ?k19 ?a20 ?l20 ?c20 ?k20 ?a21 ?l21 ?c21 ?k21 ?z_int ?z_abs ?z_len ?z_isinstance ?z_bool ?z_range ?z_min ?z_max ?ac__WIDTHS ?al__WIDTHS ?ak__WIDTHS ?ae__WIDTHS_0 ?ae__WIDTHS_1 ?ae__WIDTHS_2 ?ae__WIDTHS_3 ?ae__WIDTHS_4 ?ac__OPPOSITES ?al__OPPOSITES ?ak__OPPOSITES ?ae__OPPOSITES_0 ?ae__OPPOSITES_1 ?ae__OPPOSITES_2 ?ae__OPPOSITES_3 ?ae__OPPOSITES_4 ?ae__OPPOSITES_5 ?ae__OPPOSITES_6 ?ae__OPPOSITES_7 ?ae__OPPOSITES_8 ?ae__OPPOSITES_9 ?ac__SWAPPED ?al__SWAPPED ?ak__SWAPPED ?ae__SWAPPED_0 ?ae__SWAPPED_1 ?ae__SWAPPED_2 ?ae__SWAPPED_3 ?ae__SWAPPED_4 ?ae__SWAPPED_5 ?ae__SWAPPED_6 ?ae__SWAPPED_7 ?ae__SWAPPED_8 ?ae__SWAPPED_9
    (case a0 => k_is)
    (case l0 => k_is)
    (case c0 => k_is)
    (case k0 => k_is)
    (case a1 => k_is)
    (case l1 => k_is)
    (case c1 => k_is)
    (case k1 => k_is)
    (case a2 => k_is)
    (case l2 => k_is)
    (case c2 => k_is)
    (case k2 => k_is)
    (case a3 => k_is)
    (case l3 => k_is)
    (case c3 => k_is)
    (case k3 => k_is)
    (case a4 => k_is)
    (case l4 => k_is)
    (case c4 => k_is)
    (case k4 => k_is)
    (case a5 => k_is)
    (case l5 => k_is)
    (case c5 => k_is)
    (case k5 => k_is)
    (case a6 => k_is)
    (case l6 => k_is)
    (case c6 => k_is)
    (case k6 => k_is)
    (case a7 => k_is)
    (case l7 => k_is)
    (case c7 => k_is)
    (case k7 => k_is)
    (case a8 => k_is)
    (case l8 => k_is)
    (case c8 => k_is)
    (case k8 => k_is)
    (case a9 => k_is)
    (case l9 => k_is)
    (case c9 => k_is)
    (case k9 => k_is)
    (case a10 => k_is)
    (case l10 => k_is)
    (case c10 => k_is)
    (case k10 => k_is)
    (case a11 => k_is)
    (case l11 => k_is)
    (case c11 => k_is)
    (case k11 => k_is)
    (case a12 => k_is)
    (case l12 => k_is)
    (case c12 => k_is)
    (case k12 => k_is)
    (case a13 => k_is)
    (case l13 => k_is)
    (case c13 => k_is)
    (case k13 => k_is)
    (case a14 => k_is)
    (case l14 => k_is)
    (case c14 => k_is)
    (case k14 => k_is)
    (case a15 => k_is)
    (case l15 => k_is)
    (case c15 => k_is)
    (case k15 => k_is)
    (case a16 => k_is)
    (case l16 => k_is)
    (case c16 => k_is)
    (case k16 => k_is)
    (case a17 => k_is)
    (case l17 => k_is)
    (case c17 => k_is)
    (case k17 => k_is)
    (case a18 => k_is)
    (case l18 => k_is)
    (case c18 => k_is)
    (case k18 => k_is)
    (case a19 => k_is)
    (case l19 => k_is)
    (case c19 => k_is)
    (case k19 => k_is)
    (case a20 => k_is)
    (case l20 => k_is)
    (case c20 => k_is)
    (case k20 => k_is)
    (case a21 => k_is)
    (case l21 => k_is)
    (case c21 => k_is)
    (case k21 => k_is)
    (case z_int => k_is)
    (case z_abs => k_is)
    (case z_len => k_is)
    (case z_isinstance => k_is)
    (case z_bool => k_is)
    (case z_range => k_is)
    (case z_min => k_is)
    (case z_max => k_is)
    (case ac__WIDTHS => k_is)
    (case al__WIDTHS => k_is)
    (case ak__WIDTHS => k_keys)
    (case ae__WIDTHS_0 => k_is)
    (case ae__WIDTHS_1 => k_is)
    (case ae__WIDTHS_2 => k_is)
    (case ae__WIDTHS_3 => k_is)
    (case ae__WIDTHS_4 => k_is)
    (case ac__OPPOSITES => k_is)
    (case al__OPPOSITES => k_is)
    (case ak__OPPOSITES => k_keys)
    (case ae__OPPOSITES_0 => k_is)
    (case ae__OPPOSITES_1 => k_is)
    (case ae__OPPOSITES_2 => k_is)
    (case ae__OPPOSITES_3 => k_is)
    (case ae__OPPOSITES_4 => k_is)
    (case ae__OPPOSITES_5 => k_is)
    (case ae__OPPOSITES_6 => k_is)
    (case ae__OPPOSITES_7 => k_is)
    (case ae__OPPOSITES_8 => k_is)
    (case ae__OPPOSITES_9 => k_is)
    (case ac__SWAPPED => k_is)
    (case al__SWAPPED => k_is)
    (case ak__SWAPPED => k_keys)
    (case ae__SWAPPED_0 => k_is)
    (case ae__SWAPPED_1 => k_is)
    (case ae__SWAPPED_2 => k_is)
    (case ae__SWAPPED_3 => k_is)
    (case ae__SWAPPED_4 => k_is)
    (case ae__SWAPPED_5 => k_is)
    (case ae__SWAPPED_6 => k_is)
    (case ae__SWAPPED_7 => k_is)
    (case ae__SWAPPED_8 => k_is)
    (case ae__SWAPPED_9 => k_is)
